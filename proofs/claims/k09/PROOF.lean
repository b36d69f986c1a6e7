import PyProof.Rows.All
import Wide.All
import OpenK.AllK
import Wide.FinOn
import HandS.ForMost
import HandS.IsInst
import HandS.Flow
import HandS.Wide
import HandS.TupAny
import HandS.TupMul
import HandS.Style
import HandS.Zip
import HandS.Deep
import HandS.TupLe
import HandS.Text
import KE.KRevSl
import PyProof.Rows.StrRev
import HandS.TupSets
import KE.KSortTupG
import HandS.Comp
import HandS.RaiseMore
import HandS.Iter
import KE.GoesMore
import PySem.Challenge.RW_middlegauges_k09_forced_bounds
set_option Elab.async false
set_option linter.all false
set_option maxRecDepth 100000
set_option maxHeartbeats 400000
namespace Mx
open PySem L2

/-! ## Data without a heap -/
inductive D where
  | non | bl (b : Bool) | int (i : Int) | str (x : Str) | tup (l : List D) | lst (l : List D)

abbrev Frg := PySem.W.Frag
abbrev AS := Addr → Prop

def KT (K : Frg) (a : Addr) (xs : List V) : Prop := SqT K (fun _ => none) a xs
def KL (K : Frg) (a : Addr) (xs : List V) : Prop := SqL K (fun _ => none) a xs
def TupAt (K : Frg) (M : AS) (H : Hp) (a : Addr) (xs : List V) : Prop := (Rd H a (.tup xs) ∧ ¬ M a) ∨ KT K a xs
def LstAt (K : Frg) (M : AS) (H : Hp) (a : Addr) (xs : List V) : Prop := (Rd H a (.lst xs) ∧ ¬ M a) ∨ KL K a xs

theorem rd_none {a : Addr} {u : HO} (h : Rd (fun _ => none) a u) : False := by
  rcases h with h | ⟨_, h⟩ <;> cases h
theorem TupAt.sq {K : Frg} {M : AS} {H : Hp} {a : Addr} {xs : List V} (h : TupAt K M H a xs) : SqT K H a xs := by
  rcases h with ⟨h, _⟩ | h
  · exact .inl h
  · rcases h with h | h
    · exact (rd_none h).elim
    · exact .inr h
theorem LstAt.sq {K : Frg} {M : AS} {H : Hp} {a : Addr} {xs : List V} (h : LstAt K M H a xs) : SqL K H a xs := by
  rcases h with ⟨h, _⟩ | h
  · exact .inl h
  · rcases h with h | h
    · exact (rd_none h).elim
    · exact .inr h

mutual
def DOk (K : Frg) (M : AS) (H : Hp) : D → V → Prop
  | .non, v => v = .non
  | .bl b, v => v = .bl b
  | .int i, v => v = .int i
  | .str x, v => v = .str x
  | .tup l, v => ∃ a xs, v = .ref a ∧ TupAt K M H a xs ∧ DsOk K M H l xs
  | .lst l, v => ∃ a xs, v = .ref a ∧ LstAt K M H a xs ∧ DsOk K M H l xs
def DsOk (K : Frg) (M : AS) (H : Hp) : List D → List V → Prop
  | [], xs => xs = []
  | d :: ds, xs => ∃ x r, xs = x :: r ∧ DOk K M H d x ∧ DsOk K M H ds r
end

/-- what holds of the tracked things outside M goes on outside M' -/
def Mov (M : AS) (H : Hp) (M' : AS) (H' : Hp) : Prop := ∀ a o, H a = some o → ¬ M a → H' a = some o ∧ ¬ M' a
theorem Mov.rd {M M' : AS} {H H' : Hp} (h : Mov M H M' H') {a : Addr} {u : HO} (r : Rd H a u) (n : ¬ M a) : Rd H' a u ∧ ¬ M' a := by
  rcases r with r | ⟨o, r⟩
  · exact ⟨.inl (h _ _ r n).1, (h _ _ r n).2⟩
  · exact ⟨.inr ⟨o, (h _ _ r n).1⟩, (h _ _ r n).2⟩
theorem TupAt.mov {K : Frg} {M M' : AS} {H H' : Hp} (h : Mov M H M' H') {a : Addr} {xs : List V} (t : TupAt K M H a xs) : TupAt K M' H' a xs := by
  rcases t with ⟨t, n⟩ | t
  · exact .inl (h.rd t n)
  · exact .inr t
theorem LstAt.mov {K : Frg} {M M' : AS} {H H' : Hp} (h : Mov M H M' H') {a : Addr} {xs : List V} (t : LstAt K M H a xs) : LstAt K M' H' a xs := by
  rcases t with ⟨t, n⟩ | t
  · exact .inl (h.rd t n)
  · exact .inr t
mutual
theorem DOk.mov {K : Frg} {M M' : AS} {H H' : Hp} (h : Mov M H M' H') : ∀ (d : D) (v : V), DOk K M H d v → DOk K M' H' d v
  | .non, _, q => by unfold DOk at q ⊢; exact q
  | .bl _, _, q => by unfold DOk at q ⊢; exact q
  | .int _, _, q => by unfold DOk at q ⊢; exact q
  | .str _, _, q => by unfold DOk at q ⊢; exact q
  | .tup l, _, q => by
    unfold DOk at q ⊢
    obtain ⟨a, xs, e, t, r⟩ := q
    exact ⟨a, xs, e, t.mov h, DsOk.mov h l xs r⟩
  | .lst l, _, q => by
    unfold DOk at q ⊢
    obtain ⟨a, xs, e, t, r⟩ := q
    exact ⟨a, xs, e, t.mov h, DsOk.mov h l xs r⟩
theorem DsOk.mov {K : Frg} {M M' : AS} {H H' : Hp} (h : Mov M H M' H') : ∀ (l : List D) (xs : List V), DsOk K M H l xs → DsOk K M' H' l xs
  | [], _, q => by unfold DsOk at q ⊢; exact q
  | d :: ds, _, q => by
    unfold DsOk at q ⊢
    obtain ⟨x, r, e, t, u⟩ := q
    exact ⟨x, r, e, DOk.mov h d x t, DsOk.mov h ds r u⟩
end
theorem DsOk.len {K : Frg} {M : AS} {H : Hp} : ∀ {l : List D} {xs : List V}, DsOk K M H l xs → xs.length = l.length
  | [], _, q => by unfold DsOk at q; rw [q]; rfl
  | d :: ds, _, q => by
    unfold DsOk at q
    obtain ⟨x, r, rfl, _, u⟩ := q
    simp [DsOk.len u]
theorem DsOk.get {K : Frg} {M : AS} {H : Hp} : ∀ {l : List D} {xs : List V} {i : Nat} {d : D}, DsOk K M H l xs → l[i]? = some d → ∃ v, xs[i]? = some v ∧ DOk K M H d v
  | [], _, _, _, _, e => by simp at e
  | d :: ds, _, 0, d', q, e => by
    unfold DsOk at q
    obtain ⟨x, r, rfl, t, _⟩ := q
    simp at e
    subst e
    exact ⟨x, rfl, t⟩
  | d :: ds, _, i + 1, d', q, e => by
    unfold DsOk at q
    obtain ⟨x, r, rfl, _, u⟩ := q
    obtain ⟨v, h1, h2⟩ := DsOk.get (i := i) u (by simpa using e)
    exact ⟨v, by simpa using h1, h2⟩
theorem DsOk.nil {K : Frg} {M : AS} {H : Hp} : DsOk K M H [] [] := by unfold DsOk; rfl
theorem DsOk.cons {K : Frg} {M : AS} {H : Hp} {d : D} {v : V} {l : List D} {xs : List V} (h : DOk K M H d v) (t : DsOk K M H l xs) : DsOk K M H (d :: l) (v :: xs) := by
  unfold DsOk; exact ⟨v, xs, rfl, h, t⟩
theorem DsOk.app {K : Frg} {M : AS} {H : Hp} : ∀ {l m : List D} {xs ys : List V}, DsOk K M H l xs → DsOk K M H m ys → DsOk K M H (l ++ m) (xs ++ ys)
  | [], _, _, _, q, r => by unfold DsOk at q; rw [q]; exact r
  | d :: ds, _, _, _, q, r => by
    unfold DsOk at q
    obtain ⟨x, xs, rfl, t, u⟩ := q
    exact DsOk.cons t (DsOk.app u r)
theorem DsOk.take {K : Frg} {M : AS} {H : Hp} : ∀ {l : List D} {xs : List V} (n : Nat), DsOk K M H l xs → DsOk K M H (l.take n) (xs.take n)
  | _, _, 0, _ => by simp; exact DsOk.nil
  | [], _, n + 1, q => by unfold DsOk at q; rw [q]; exact DsOk.nil
  | d :: ds, _, n + 1, q => by
    unfold DsOk at q
    obtain ⟨x, xs, rfl, t, u⟩ := q
    exact DsOk.cons t (DsOk.take n u)
theorem DsOk.drop {K : Frg} {M : AS} {H : Hp} : ∀ {l : List D} {xs : List V} (n : Nat), DsOk K M H l xs → DsOk K M H (l.drop n) (xs.drop n)
  | _, _, 0, q => q
  | [], _, n + 1, q => by unfold DsOk at q; rw [q]; exact DsOk.nil
  | d :: ds, _, n + 1, q => by
    unfold DsOk at q
    obtain ⟨x, xs, rfl, t, u⟩ := q
    exact DsOk.drop n u
theorem DsOk.set {K : Frg} {M : AS} {H : Hp} {d : D} {v : V} (h : DOk K M H d v) : ∀ {l : List D} {xs : List V} (n : Nat), DsOk K M H l xs → DsOk K M H (l.set n d) (xs.set n v)
  | [], _, n, q => by unfold DsOk at q; rw [q]; exact DsOk.nil
  | _ :: ds, _, 0, q => by
    unfold DsOk at q
    obtain ⟨x, xs, rfl, _, u⟩ := q
    exact DsOk.cons h u
  | _ :: ds, _, n + 1, q => by
    unfold DsOk at q
    obtain ⟨x, xs, rfl, t, u⟩ := q
    exact DsOk.cons t (DsOk.set h n u)
theorem DsOk.rev {K : Frg} {M : AS} {H : Hp} : ∀ {l : List D} {xs : List V}, DsOk K M H l xs → DsOk K M H l.reverse xs.reverse
  | [], _, q => by unfold DsOk at q; rw [q]; exact DsOk.nil
  | d :: ds, _, q => by
    unfold DsOk at q
    obtain ⟨x, xs, rfl, t, u⟩ := q
    simp only [List.reverse_cons]
    exact DsOk.app (DsOk.rev u) (DsOk.cons t DsOk.nil)

/-! ## What the names hold -/
inductive En where
  | imm (d : D) | cel (l : List D)
def En.toD : En → D
  | .imm d => d
  | .cel l => .lst l
abbrev Rho := List (Option En)
abbrev CM := Nat → Option Addr
def MM (Mo : AS) (C : CM) (r : Option Addr) : AS := fun a => Mo a ∨ (∃ i, C i = some a) ∨ r = some a

structure Eok (K : Frg) (Mo : AS) (C : CM) (r : Option Addr) (H : Hp) (σ : St) (ρ : Rho) : Prop where
  len : σ.length = ρ.length
  imm : ∀ (i : Nat) (d : D), ρ[i]? = some (some (En.imm d)) → ∃ v, σ[i]? = some (some v) ∧ DOk K (MM Mo C r) H d v
  cel : ∀ (i : Nat) (l : List D), ρ[i]? = some (some (En.cel l)) → ∃ a xs, C i = some a ∧ σ[i]? = some (some (.ref a)) ∧ H a = some (.lst xs) ∧ DsOk K (MM Mo C r) H l xs
  only : ∀ (i : Nat) (a : Addr), C i = some a → ∃ l, ρ[i]? = some (some (En.cel l))
  inj : ∀ i j a, C i = some a → C j = some a → i = j
  out : ∀ a, Mo a → ∃ o, H a = some o
  apart : ∀ i a, C i = some a → ¬ Mo a
  rz : ∀ a, r = some a → (∀ i, C i ≠ some a) ∧ ¬ Mo a

def EnOk (K : Frg) (Mo : AS) (C : CM) (r : Option Addr) (H : Hp) (v : V) : En → Prop
  | .imm d => r = none ∧ DOk K (MM Mo C r) H d v
  | .cel l => ∃ a xs, r = some a ∧ v = .ref a ∧ H a = some (.lst xs) ∧ DsOk K (MM Mo C r) H l xs

structure Stp (np : Nat) (C : CM) (H : Hp) (C' : CM) (r' : Option Addr) (H' : Hp) : Prop where
  keep : ∀ a o, H a = some o → (∀ i, C i ≠ some a) → H' a = some o
  new : ∀ i a, C' i = some a → (∃ j, C j = some a) ∨ H a = none
  res : ∀ a, r' = some a → (∃ j, C j = some a) ∨ H a = none
  par : ∀ i a, i < np → C' i = some a → C i = some a

theorem Stp.refl {np : Nat} {C : CM} {H : Hp} : Stp np C H C none H :=
  ⟨fun _ _ h _ => h, fun i a h => .inl ⟨i, h⟩, fun _ h => (nomatch h), fun _ _ _ h => h⟩
theorem Stp.trans {np : Nat} {C C1 C2 : CM} {H H1 H2 : Hp} {r1 r2 : Option Addr} (a : Stp np C H C1 r1 H1) (b : Stp np C1 H1 C2 r2 H2) : Stp np C H C2 r2 H2 := by
  have key : ∀ x, ((∃ j, C1 j = some x) ∨ H1 x = none) → (∃ j, C j = some x) ∨ H x = none := by
    intro x h
    rcases h with ⟨j, h⟩ | h
    · exact a.new j x h
    · cases e : H x with
      | none => exact .inr rfl
      | some o =>
        by_cases hc : ∃ j, C j = some x
        · exact .inl hc
        · have q := a.keep x o e (fun i hi => hc ⟨i, hi⟩)
          rw [h] at q; cases q
  refine ⟨fun x o h n => ?_, fun i x h => key x (b.new i x h), fun x h => key x (b.res x h), fun i x hi h => a.par i x hi (b.par i x hi h)⟩
  refine b.keep x o (a.keep x o h n) fun i hi => ?_
  rcases a.new i x hi with ⟨j, hj⟩ | hj
  · exact n j hj
  · rw [h] at hj; cases hj
theorem Stp.mov {np : Nat} {Mo : AS} {C C' : CM} {H H' : Hp} {r r' : Option Addr} (a : Stp np C H C' r' H') (ho : ∀ x, Mo x → ∃ o, H x = some o) : Mov (MM Mo C r) H (MM Mo C' r') H' := by
  intro x o h n
  have nC : ∀ i, C i ≠ some x := fun i hi => n (.inr (.inl ⟨i, hi⟩))
  refine ⟨a.keep x o h nC, ?_⟩
  rintro (m | ⟨i, m⟩ | m)
  · exact n (.inl m)
  · rcases a.new i x m with ⟨j, hj⟩ | hj
    · exact nC j hj
    · rw [h] at hj; cases hj
  · rcases a.res x m with ⟨j, hj⟩ | hj
    · exact nC j hj
    · rw [h] at hj; cases hj
theorem mov_less {Mo : AS} {C : CM} {H : Hp} {r : Option Addr} : Mov (MM Mo C r) H (MM Mo C none) H := by
  intro x o h n
  refine ⟨h, ?_⟩
  rintro (m | m | m)
  · exact n (.inl m)
  · exact n (.inr (.inl m))
  · cases m

/-- the result's place is forgotten -/
theorem Eok.drop {K : Frg} {Mo : AS} {C : CM} {r : Option Addr} {H : Hp} {σ : St} {ρ : Rho} (h : Eok K Mo C r H σ ρ) : Eok K Mo C none H σ ρ :=
  ⟨h.len, fun i d e => let ⟨v, a, b⟩ := h.imm i d e; ⟨v, a, DOk.mov mov_less d v b⟩,
   fun i l e => let ⟨a, xs, h1, h2, h3, h4⟩ := h.cel i l e; ⟨a, xs, h1, h2, h3, DsOk.mov mov_less l xs h4⟩, h.only, h.inj, h.out, h.apart, fun _ z => (nomatch z)⟩
theorem EnOk.toD {K : Frg} {Mo : AS} {C : CM} {r : Option Addr} {H : Hp} {σ : St} {ρ : Rho} {v : V} {e : En} (E : Eok K Mo C r H σ ρ) (h : EnOk K Mo C r H v e) : DOk K (MM Mo C none) H e.toD v := by
  cases e with
  | imm d => exact DOk.mov mov_less d v h.2
  | cel l =>
    obtain ⟨a, xs, hr, rfl, hH, hd⟩ := h
    show DOk K (MM Mo C none) H (.lst l) (.ref a)
    unfold DOk
    refine ⟨a, xs, rfl, .inl ⟨.inl hH, ?_⟩, DsOk.mov mov_less l xs hd⟩
    obtain ⟨n1, n2⟩ := E.rz a hr
    rintro (m | ⟨i, m⟩ | m)
    · exact n2 m
    · exact n1 i m
    · cases m
theorem Stp.drop {np : Nat} {C C' : CM} {H H' : Hp} {r : Option Addr} (h : Stp np C H C' r H') : Stp np C H C' none H' := ⟨h.keep, h.new, fun _ z => (nomatch z), h.par⟩

/-! ## Readings -/
section
variable (np : Nat) (K : Frg)
def tD (F : Rho → Option (En × Rho)) : TE := fun σ H Q => ∃ Mo C ρ e ρ', Eok K Mo C none H σ ρ ∧ F ρ = some (e, ρ') ∧
  ∀ C' r v H', Eok K Mo C' r H' σ ρ' → EnOk K Mo C' r H' v e → Stp np C H C' r H' → Q v H'
def tI (F : Rho → Option (D × Rho)) : TE := fun σ H Q => ∃ Mo C ρ d ρ', Eok K Mo C none H σ ρ ∧ F ρ = some (d, ρ') ∧
  ∀ C' v H', Eok K Mo C' none H' σ ρ' → DOk K (MM Mo C' none) H' d v → Stp np C H C' none H' → Q v H'
def tT (F : Rho → Option (Bool × Rho)) : TT := fun σ H Q => ∃ Mo C ρ b ρ', Eok K Mo C none H σ ρ ∧ F ρ = some (b, ρ') ∧
  ∀ C' H', Eok K Mo C' none H' σ ρ' → Stp np C H C' none H' → Q b H'
def tL (F : Rho → Option (List D × Rho)) : TA := fun σ H Q => ∃ Mo C ρ d ρ', Eok K Mo C none H σ ρ ∧ F ρ = some (d, ρ') ∧
  ∀ C' v H', Eok K Mo C' none H' σ ρ' → DsOk K (MM Mo C' none) H' d v → Stp np C H C' none H' → Q v H'
end
def immF (F : Rho → Option (En × Rho)) : Rho → Option (D × Rho) := fun ρ => match F ρ with
  | some (e, ρ') => some (e.toD, ρ')
  | none => none
theorem _root_.L2.PE.weak {X : Cx} {e : Expr} {t t' : TE} (h : PE X e t) (w : ∀ σ H Q, t' σ H Q → t σ H Q) : PE X e t' := ⟨fun pins s σ H Q I q => h.run pins s σ H Q I (w σ H Q q)⟩
theorem _root_.L2.PT.weak {X : Cx} {e : Expr} {t t' : TT} (h : PT X e t) (w : ∀ σ H Q, t' σ H Q → t σ H Q) : PT X e t' := ⟨fun pins s σ H Q I q => h.run pins s σ H Q I (w σ H Q q)⟩
theorem _root_.L2.PA.weak {X : Cx} {e : List Expr} {t t' : TA} (h : PA X e t) (w : ∀ σ H Q, t' σ H Q → t σ H Q) : PA X e t' := ⟨fun pos pins s σ H Q I q => h.run pos pins s σ H Q I (w σ H Q q)⟩
theorem _root_.L2.PS.weak {X : Cx} {e : Stmt} {t t' : TS} (h : PS X e t) (w : ∀ D σ H, t' D σ H → t D σ H) : PS X e t' := ⟨fun pins s σ H D I q => h.run pins s σ H D I (w D σ H q)⟩
theorem _root_.L2.PSs.weak {X : Cx} {e : List Stmt} {t t' : TS} (h : PSs X e t) (w : ∀ D σ H, t' D σ H → t D σ H) : PSs X e t' := ⟨fun pins s σ H D I q => h.run pins s σ H D I (w D σ H q)⟩
theorem _root_.L2.PE.toI {X : Cx} {np : Nat} {K : Frg} {e : Expr} {F : Rho → Option (En × Rho)} (h : PE X e (tD np K F)) : PE X e (tI np K (immF F)) := by
  refine h.weak fun σ H Q q => ?_
  obtain ⟨Mo, C, ρ, d, ρ', E, hF, k⟩ := q
  unfold immF at hF
  split at hF
  · rename_i e1 ρ1 h1
    cases hF
    exact ⟨Mo, C, ρ, e1, _, E, h1, fun C' r v H' E' o s => k C' v H' E'.drop (EnOk.toD E' o) s.drop⟩
  · cases hF

/-! ## Sequences of readings -/
section
variable {np : Nat} {K : Frg}
/-- behind the first part the second one -/
theorem tI_then {Fa : Rho → Option (D × Rho)} {Mo : AS} {C : CM} {ρ ρ1 : Rho} {d : D} {σ : St} {H : Hp} {P : V → Hp → Prop} (E : Eok K Mo C none H σ ρ) (h : Fa ρ = some (d, ρ1))
    (k : ∀ C' v H', Eok K Mo C' none H' σ ρ1 → DOk K (MM Mo C' none) H' d v → Stp np C H C' none H' → P v H') : tI np K Fa σ H P := ⟨Mo, C, ρ, d, ρ1, E, h, k⟩
end
end Mx
set_option maxHeartbeats 400000
namespace Mx
open PySem L2

/-! ## The evaluator -/
structure Fn where
  ps : List Str
  run : List En → Option (En × List (Option (List D)))
  shapes : List (Nat × List Str)
  cm : List Bool
structure Gam where
  N : List Str
  np : Nat
  sc : Scope
  Phi : Str → Option Fn
  G : Str → Option D
  B : Str → Bool

def ixOf : List Str → Str → Option Nat
  | [], _ => none
  | y :: r, x => if y = x then some 0 else (ixOf r x).map (· + 1)
theorem ixOf_get : ∀ {N : List Str} {x : Str} {i : Nat}, ixOf N x = some i → N[i]? = some x
  | [], _, _, h => by cases h
  | y :: r, x, i, h => by
    unfold ixOf at h
    by_cases e : y = x
    · rw [if_pos e] at h
      cases h
      simp [e]
    · rw [if_neg e] at h
      cases q : ixOf r x with
      | none => rw [q] at h; cases h
      | some j =>
        rw [q] at h
        cases h
        simpa using ixOf_get q
def okN (x : Str) : Bool := !(x == "__debug__") && !(x == "__classdict__") && !(x == "__name__")
def visB (sc : Scope) (x : Str) : Bool := match sc.names.lookup x with
  | some .local => true
  | some .cell => true
  | some .free => true
  | _ => false
def locB (sc : Scope) (x : Str) : Bool := match sc.names.lookup x with
  | some .local => true
  | some .cell => true
  | _ => false
def glB (sc : Scope) (x : Str) : Bool := match sc.names.lookup x with
  | some .globalImplicit => true
  | _ => false
def isStar : Expr → Bool
  | .Starred _ _ => true
  | _ => false
def isComp : Expr → Bool
  | .ListComp .. => true
  | .SetComp .. => true
  | .DictComp .. => true
  | _ => false

/-- a name read: a list of its own is given away -/
def evName (Γ : Gam) (x : Str) (ρ : Rho) : Option (En × Rho) :=
  if okN x then
    if visB Γ.sc x then
      match ixOf Γ.N x with
      | some i => match ρ[i]? with
        | some (some (.imm d)) => some (.imm d, ρ)
        | some (some (.cel l)) => some (.imm (.lst l), ρ.set i (some (.imm (.lst l))))
        | _ => none
      | none => none
    else if glB Γ.sc x then match Γ.G x with
      | some d => some (.imm d, ρ)
      | none => none
    else none
  else none
/-- .. and looked at for a moment -/
def brName (Γ : Gam) (x : Str) (ρ : Rho) : Option D :=
  if okN x then
    if visB Γ.sc x then
      match ixOf Γ.N x with
      | some i => match ρ[i]? with
        | some (some e) => some e.toD
        | _ => none
      | none => none
    else none
  else none

def evLw (ev : Expr → Rho → Option (En × Rho)) : List Expr → Rho → Option (List D × Rho)
  | [], ρ => some ([], ρ)
  | e :: es, ρ => if isStar e then none else (immF (ev e) ρ).bind fun p => (evLw ev es p.2).bind fun q => some (p.1 :: q.1, q.2)

def line : Nat := 16777216
def mulOk (i j : Int) : Bool := (decide (-(2 ^ 64) < i) && decide (i < 2 ^ 64)) || (decide (-(2 ^ 64) < j) && decide (j < 2 ^ 64))
def binD : Operator → D → D → Option En
  | .Add, .int i, .int j => some (.imm (.int (i + j)))
  | .Add, .str a, .str b => if a.length + b.length ≤ line then some (.imm (.str (a ++ b))) else none
  | .Add, .tup l, .tup m => if l.length + m.length ≤ line then some (.imm (.tup (l ++ m))) else none
  | .Add, .lst l, .lst m => if l.length + m.length ≤ line then some (.cel (l ++ m)) else none
  | .Sub, .int i, .int j => some (.imm (.int (i - j)))
  | .Mult, .int i, .int j => if mulOk i j then some (.imm (.int (i * j))) else none
  | .Mult, .lst l, .int k => if -(2 ^ 63) ≤ k ∧ k < 2 ^ 63 ∧ l.length * k.toNat ≤ line then some (.cel (List.replicate k.toNat l).flatten) else none
  | .Mult, .tup l, .int k => if l ≠ [] ∧ 2 ≤ k ∧ k ≤ 1000 ∧ l.length ≤ 1000 then some (.imm (.tup (List.replicate k.toNat l).flatten)) else none
  | .FloorDiv, .int i, .int j => if 0 < j ∧ j < 2 ^ 64 then some (.imm (.int (i / j))) else none
  | .Mod, .int i, .int j => if 0 < j then some (.imm (.int (i % j))) else none
  | .Pow, .int i, .int j => if 0 ≤ j ∧ j ≤ 1000 ∧ i.natAbs < 2 ^ 64 then some (.imm (.int (i ^ j.toNat))) else none
  | _, _, _ => none

mutual
def toPy : D → PyData
  | .non => .none
  | .bl b => .bool b
  | .int i => .int i
  | .str x => .str x
  | .tup l => .tuple (toPys l)
  | .lst l => .list (toPys l)
def toPys : List D → List PyData
  | [] => []
  | d :: ds => toPy d :: toPys ds
end
/-- values without an object -/
def flat : D → Option V
  | .non => some .non
  | .bl b => some (.bl b)
  | .int i => some (.int i)
  | .str x => some (.str x)
  | _ => none
def flats : List D → Option (List V)
  | [] => some []
  | d :: ds => (flat d).bind fun v => (flats ds).bind fun r => some (v :: r)
def eqD (x y : D) : Option Bool :=
  match x, y with
  | .int i, .int j => some (decide (i = j))
  | .str i, .str j => some (decide (i = j))
  | .bl i, .bl j => some (decide (i = j))
  | x, y => if SeqAt.shaped (toPy x) && SeqAt.shaped (toPy y) then some (PyData.eqv (toPy x) (toPy y)) else none
def inD (x y : D) : Option Bool :=
  match y with
  | .lst l => ((flat x).bind fun v => (flats l).bind fun vs => some (inV v vs)).or (if SeqAt.shaped (toPy x) && SeqAt.shaped (.list (toPys l)) then some ((toPys l).any fun z => PyData.eqv z (toPy x)) else none)
  | .tup l => (flat x).bind fun v => (flats l).bind fun vs => some (inV v vs)
  | _ => none
/-- tuples of numbers and texts, of the same kinds where both have one -/
def kinds : List D → List D → Bool
  | .int _ :: l, .int _ :: m => kinds l m
  | .str _ :: l, .str _ :: m => kinds l m
  | [], _ => true
  | _ :: _, [] => true
  | _, _ => false
def ltL : List D → List D → Bool
  | .int i :: l, .int j :: m => if i = j then ltL l m else decide (i < j)
  | .str i :: l, .str j :: m => if i = j then ltL l m else decide (i.cps.toList < j.cps.toList)
  | [], _ :: _ => true
  | _, _ => false
def cmpD : CmpOp → D → D → Option Bool
  | .Eq, x, y => eqD x y
  | .NotEq, x, y => (eqD x y).map (!·)
  | .Lt, .int i, .int j => some (decide (i < j))
  | .Lt, .tup l, .tup m => if kinds l m then some (ltL l m) else none
  | .LtE, .int i, .int j => some (decide (i ≤ j))
  | .Gt, .int i, .int j => some (decide (j < i))
  | .GtE, .int i, .int j => some (decide (j ≤ i))
  | .In, x, y => inD x y
  | .NotIn, x, y => (inD x y).map (!·)
  | .Is, .non, .non => some true
  | .Is, _, .non => some false
  | .IsNot, .non, .non => some false
  | .IsNot, _, .non => some true
  | _, _, _ => none

/-! ## The context -/
/-- a def of one's own, called with such values: what sem says -/
def spF (K : Frg) (ps : List Str) (sem : List En → Option (En × List (Option (List D)))) : Sp := fun vs H Q _ => vs.length = ps.length ∧
  ∃ Mo C ens e outs, Eok K Mo C none H (vs.map some) (ens.map some) ∧ sem ens = some (e, outs) ∧
    ∀ r v H', Eok K Mo C r H' (vs.map some) ((ens.zip outs).map fun p => some (match p.2 with | some l => En.cel l | none => p.1)) → EnOk K Mo C r H' v e → Stp ps.length C H C r H' → Q v H'

structure GOk (P : Program) (w : World) (K : Frg) (mg : Str → Option Value) (base : Heap) (k : Nat) (f : Addr) (fd : FuncData) (ps : List Str) (sp : Sp) : Prop where
  len : ∀ vs H Q E, sp vs H Q E → vs.length = ps.length
  run : ∀ (A : Around) (outer : List Env) (s : Shared) (H : Hp) (args : Args) (us : List Value) (vs : List V) (Q : VK), Room k A → A.guards = some [] → Env0 P w K mg base A outer s H →
    BindsTo s fd args (ps.zip us) → Vals vs us → sp vs H Q E0 → codeAny (model P w) A (.call (.ref f) args) (CR CX0 outer P w H s Q E0) s

def pick {α : Type} : List Str → List α → Str → List α
  | k :: ks, w :: ws, p => if k = p then [w] else pick ks ws p
  | _, _, _ => []
def mixA {α : Type} : List Str → List Str → List α → List α → List α
  | [], _, _, _ => []
  | _ :: ps, ks, u :: us, ws => u :: mixA ps ks us ws
  | p :: ps, ks, [], ws => pick ks ws p ++ mixA ps ks [] ws
structure OwnFn (X : Cx) (x : Str) (F : Fn) : Prop where
  ok : ∃ (f : Addr) (fd : FuncData) (k : Nat), GOk X.prog X.w X.K X.mg X.base k f fd F.ps (spF X.K F.ps F.run) ∧ Room k X.A ∧ X.mg x = some (.ref f) ∧ PySem.W.keepIn X.K (.ref f) = true ∧
    ∀ n ks, (n, ks) ∈ F.shapes → ∀ (s : Shared) (us ws : List Value), X.K.In s.heap → us.length = n → ws.length = ks.length → (mixA F.ps ks us ws).length = F.ps.length →
      BindsTo s fd ⟨us, ks.zip ws⟩ (F.ps.zip (mixA F.ps ks us ws))

structure CxOk (Γ : Gam) (X : Cx) : Prop where
  nN : X.N = Γ.N
  nd : Γ.N.Nodup
  sc : X.env.scope = Γ.sc
  calm : X.calm = true
  xe : X.xe = fun _ _ => False
  room : Room 1 X.A
  guard : X.A.guards = some []
  phi : ∀ x F, Γ.Phi x = some F → OwnFn X x F
  glo : ∀ x d, Γ.G x = some d → ∃ u v, X.mg x = some u ∧ RelV v u ∧ ∀ M H, DOk X.K M H d v
  blt : ∀ x, Γ.B x = true → X.mg x = none

/-! ## Soundness of the parts -/
theorem _root_.L2.PE.of {X : Cx} {e : Expr} {T : TE} (h : ∀ σ H Q, T σ H Q → ∃ t, PE X e t ∧ t σ H Q) : PE X e T :=
  ⟨fun pins s σ H Q I q => let ⟨t, p, z⟩ := h σ H Q q; p.run pins s σ H Q I z⟩
theorem _root_.L2.PT.of {X : Cx} {e : Expr} {T : TT} (h : ∀ σ H Q, T σ H Q → ∃ t, PT X e t ∧ t σ H Q) : PT X e T :=
  ⟨fun pins s σ H Q I q => let ⟨t, p, z⟩ := h σ H Q q; p.run pins s σ H Q I z⟩
theorem _root_.L2.PA.of {X : Cx} {e : List Expr} {T : TA} (h : ∀ σ H Q, T σ H Q → ∃ t, PA X e t ∧ t σ H Q) : PA X e T :=
  ⟨fun pos pins s σ H Q I q => let ⟨t, p, z⟩ := h σ H Q q; p.run pos pins s σ H Q I z⟩
theorem _root_.L2.PS.of {X : Cx} {e : Stmt} {T : TS} (h : ∀ D σ H, T D σ H → ∃ t, PS X e t ∧ t D σ H) : PS X e T :=
  ⟨fun pins s σ H D I q => let ⟨t, p, z⟩ := h D σ H q; p.run pins s σ H D I z⟩
theorem _root_.L2.PSs.of {X : Cx} {e : List Stmt} {T : TS} (h : ∀ D σ H, T D σ H → ∃ t, PSs X e t ∧ t D σ H) : PSs X e T :=
  ⟨fun pins s σ H D I q => let ⟨t, p, z⟩ := h D σ H q; p.run pins s σ H D I z⟩
/-- any rule that fits the values -/
def rAny (X : Cx) (f : Value → Value → Sem Value) : R2 := fun x y H Q => ∃ r : R2, OpR X f r ∧ r x y H Q
theorem op_any {X : Cx} {f : Value → Value → Sem Value} : OpR X f (rAny X f) := by
  intro pins s σ H x y v u Q I rx ry h
  obtain ⟨r, ho, q⟩ := h
  exact ho pins s σ H x y v u Q I rx ry q
def cAny (X : Cx) (f : Value) : List V → Hp → VK → Prop := fun xs H Q => ∃ r : List V → Hp → VK → Prop, CallR X f r ∧ r xs H Q
theorem call_any {X : Cx} {f : Value} : CallR X f (cAny X f) := by
  intro pins s σ H xs us Q I r h
  obtain ⟨r', ho, q⟩ := h
  exact ho pins s σ H xs us Q I r q

section
variable {K : Frg} {Mo : AS} {C : CM} {H H' : Hp} {σ : St} {ρ : Rho} {np : Nat} {r' : Option Addr}
theorem Eok.trk (E : Eok K Mo C none H σ ρ) {i : Nat} {a : Addr} (h : C i = some a) : ∃ xs, H a = some (.lst xs) := by
  obtain ⟨l, e⟩ := E.only i a h
  obtain ⟨b, xs, h1, _, h3, _⟩ := E.cel i l e
  rw [h] at h1
  cases h1
  exact ⟨xs, h3⟩
/-- things come beside -/
theorem Eok.grow (E : Eok K Mo C none H σ ρ) (g : ∀ a o, H a = some o → H' a = some o) (hr : ∀ a, r' = some a → H a = none) :
    Eok K Mo C r' H' σ ρ ∧ Stp np C H C r' H' ∧ Mov (MM Mo C none) H (MM Mo C r') H' := by
  have S : Stp np C H C r' H' := ⟨fun a o h _ => g a o h, fun i a h => .inl ⟨i, h⟩, fun a h => .inr (hr a h), fun _ _ _ h => h⟩
  have M : Mov (MM Mo C none) H (MM Mo C r') H' := S.mov E.out
  refine ⟨⟨E.len, fun i d e => ?_, fun i l e => ?_, E.only, E.inj, fun a h => ?_, E.apart, fun a h => ⟨fun i hi => ?_, fun m => ?_⟩⟩, S, M⟩
  · obtain ⟨v, h1, h2⟩ := E.imm i d e
    exact ⟨v, h1, DOk.mov M d v h2⟩
  · obtain ⟨a, xs, h1, h2, h3, h4⟩ := E.cel i l e
    exact ⟨a, xs, h1, h2, g _ _ h3, DsOk.mov M l xs h4⟩
  · obtain ⟨o, h'⟩ := E.out a h
    exact ⟨o, g a o h'⟩
  · obtain ⟨xs, q⟩ := E.trk hi
    rw [hr a h] at q; cases q
  · obtain ⟨o, q⟩ := E.out a m
    rw [hr a h] at q; cases q
theorem upd_grow {p : Addr} {o : HO} (hp : H p = none) : ∀ a u, H a = some u → upd H p o a = some u := fun a u h => by rw [upd_ne (ne_of_none h hp)]; exact h

/-- a list's place is given away: its name holds it as a thing that stays -/
theorem Eok.freeze (E : Eok K Mo C none H σ ρ) {i : Nat} {l : List D} (e : ρ[i]? = some (some (.cel l))) :
    ∃ a, σ[i]? = some (some (.ref a)) ∧ Eok K Mo (fun j => if j = i then none else C j) none H σ (ρ.set i (some (.imm (.lst l)))) ∧
      DOk K (MM Mo (fun j => if j = i then none else C j) none) H (.lst l) (.ref a) ∧ Stp np C H (fun j => if j = i then none else C j) none H := by
  obtain ⟨a, xs, h1, h2, h3, h4⟩ := E.cel i l e
  have hi : i < ρ.length := (List.getElem?_eq_some_iff.mp e).1
  have S : Stp np C H (fun j => if j = i then none else C j) none H :=
    ⟨fun _ _ h _ => h, fun j b h => by by_cases z : j = i <;> simp only [z, if_true, if_false] at h; · cases h
                                       · exact .inl ⟨j, by simpa [z] using h⟩, fun _ z => (nomatch z), fun j b _ h => by by_cases z : j = i <;> simp [z] at h; exact h⟩
  have M : Mov (MM Mo C none) H (MM Mo (fun j => if j = i then none else C j) none) H := S.mov E.out
  have D0 : DOk K (MM Mo (fun j => if j = i then none else C j) none) H (.lst l) (.ref a) := by
    unfold DOk
    refine ⟨a, xs, rfl, .inl ⟨.inl h3, ?_⟩, DsOk.mov M l xs h4⟩
    rintro (m | ⟨j, m⟩ | m)
    · exact E.apart i a h1 m
    · by_cases z : j = i
      · simp [z] at m
      · simp [z] at m
        exact z (E.inj j i a m h1)
    · cases m
  refine ⟨a, h2, ⟨by simpa using E.len, fun j d ej => ?_, fun j m ej => ?_, fun j b h => ?_, fun j k b h h' => ?_, E.out, fun j b h => ?_, fun _ z => (nomatch z)⟩, D0, S⟩
  · by_cases z : j = i
    · subst z
      rw [List.getElem?_set_self hi] at ej
      cases ej
      exact ⟨_, h2, D0⟩
    · rw [List.getElem?_set_ne (Ne.symm z)] at ej
      obtain ⟨v, q1, q2⟩ := E.imm j d ej
      exact ⟨v, q1, DOk.mov M d v q2⟩
  · by_cases z : j = i
    · subst z
      rw [List.getElem?_set_self hi] at ej
      cases ej
    · rw [List.getElem?_set_ne (Ne.symm z)] at ej
      obtain ⟨b, ys, q1, q2, q3, q4⟩ := E.cel j m ej
      exact ⟨b, ys, by simp [z, q1], q2, q3, DsOk.mov M m ys q4⟩
  · by_cases z : j = i
    · simp [z] at h
    · simp [z] at h
      obtain ⟨m, q⟩ := E.only j b h
      exact ⟨m, by rw [List.getElem?_set_ne (Ne.symm z)]; exact q⟩
  · by_cases z : j = i
    · simp [z] at h
    · by_cases z' : k = i
      · simp [z'] at h'
      · simp [z] at h
        simp [z'] at h'
        exact E.inj j k b h h'
  · by_cases z : j = i
    · simp [z] at h
    · simp [z] at h
      exact E.apart j b h
end

theorem vis_of {sc : Scope} {x : Str} (h : visB sc x = true) : Vis sc x := by
  unfold visB at h
  split at h
  · exact .inl (by assumption)
  · exact .inr (.inl (by assumption))
  · exact .inr (.inr (by assumption))
  · cases h
theorem okN_d {x : Str} (h : okN x = true) : (x == ("__debug__" : Str)) = false ∧ (x == ("__classdict__" : Str)) = false ∧ x ≠ "__name__" := by
  unfold okN at h
  simp only [Bool.and_eq_true, Bool.not_eq_true'] at h
  exact ⟨h.1.1, h.1.2, by simpa using h.2⟩

section
variable {Γ : Gam} {X : Cx}
theorem CxOk.gl (c : CxOk Γ X) {x : Str} (h : glB Γ.sc x = true) : Gl X x := by
  unfold glB at h
  show X.env.scope.names.lookup x = _
  rw [c.sc]
  split at h
  · assumption
  · cases h
theorem name_ok (c : CxOk Γ X) {x : Str} {p : Pos} : PE X (.Name x p) (tD Γ.np X.K (evName Γ x)) := by
  refine PE.of fun σ H Q h => ?_
  obtain ⟨Mo, C, ρ, e, ρ', E, hF, k⟩ := h
  unfold evName at hF
  split at hF
  · rename_i ok
    obtain ⟨o1, o2, o3⟩ := okN_d ok
    split at hF
    · rename_i vi
      cases hi : ixOf Γ.N x with
      | none => simp only [hi] at hF; cases hF
      | some i =>
        simp only [hi] at hF
        have hN : X.N[i]? = some x := by rw [c.nN]; exact ixOf_get hi
        have hv : Vis X.env.scope x := by rw [c.sc]; exact vis_of vi
        refine ⟨_, pe_var hN hv o1 o2, ?_⟩
        split at hF
        · rename_i d ed
          cases hF
          obtain ⟨v, h1, h2⟩ := E.imm i d ed
          exact ⟨v, h1, k C none v H E ⟨rfl, h2⟩ Stp.refl⟩
        · rename_i l ed
          cases hF
          obtain ⟨a, h1, E', d', s'⟩ := E.freeze (np := Γ.np) ed
          exact ⟨_, h1, k _ none _ H E' ⟨rfl, d'⟩ s'⟩
        · cases hF
    · split at hF
      · rename_i _ gl
        cases hg : Γ.G x with
        | none => simp only [hg] at hF; cases hF
        | some d =>
          simp only [hg] at hF
          cases hF
          obtain ⟨u, v, h1, h2, h3⟩ := c.glo x d hg
          exact ⟨_, pe_glob (c.gl gl) h1 h2 o1, k C none v H E ⟨rfl, h3 _ _⟩ Stp.refl⟩
      · cases hF
  · cases hF
end
end Mx
set_option maxHeartbeats 4000000
/-! ## list * int, wherever the list stands -/
namespace Mx
open PySem PySem.Spec PyProof.Rows L2 Builtin
theorem rmul_listW (a : Int) (t : Tok) (l : Addr) (items : Array Value) (n : Nat) (dd : Option Addr) (sl : Array (Option Value)) :
    Meets (Builtin.«int.__rmul__» ⟨[.int a t, .ref l], []⟩) (fun _ R s => s.heap.get? l = some { cls := .type "list", dict := dd, data := .seq items n, slots := sl } ∧ R (.ok (.ret Value.notImplemented)) s) :=
  .of_wp fun prog w A R s h => by obtain ⟨hp, g, d, tk, os⟩ := s; obtain ⟨hl, h⟩ := h; wp_walk using wpAny_loadPart' hl; exact ⟨_, rfl, h⟩
theorem list_mulW (l : Addr) (items : Array Value) (n : Nat) (dd : Option Addr) (sl : Array (Option Value)) (x : Int) (u : Tok) (hc0 : ¬(!Builtin.List.listFitsIndex x) = true) (hc1 : ¬items.size * x.toNat > (2 ^ 63 - 1) / 8) (hc2 : ¬Builtin.List.listTooLong (items.size * x.toNat) = true) :
    Meets (Builtin.«list.__mul__» ⟨[.ref l, .int x u], []⟩) (fun _ R s => s.heap.get? l = some { cls := .type "list", dict := dd, data := .seq items n, slots := sl } ∧ R (.ok (.ret (Value.ref s.heap.objs.size))) { s with heap := s.heap.push { cls := Value.type "list", data := Data.seq (List.foldl (fun x1 x2 => x1 ++ x2) #[] (List.replicate (if items.isEmpty = true then 0 else x.toNat) items)) }, toks := s.toks }) :=
  .of_wp fun prog w A R s h => by
    obtain ⟨hp, g, d, tk, os⟩ := s
    obtain ⟨hl, h⟩ := h
    have hsz := AutoListH.joined_fits hc2
    have f1 := AutoSeq1.idx_int
    wp_walk using wpAny_loadPart' hl
    refine wpAny_ite_false (decide_eq_false (Nat.not_lt.mpr hsz)) ?_
    wp_walk using wpAny_loadPart' hl
    exact ⟨_, rfl, h⟩
def rRepL (K : PySem.W.Frag) : R2 := fun x y H Q => ∃ l k xs, x = .ref l ∧ y = .int k ∧ SqL K H l xs ∧ -(2 ^ 63) ≤ k ∧ k < 2 ^ 63 ∧ xs.length * k.toNat ≤ sizeLine ∧
  ∀ p, H p = none → Q (.ref p) (upd H p (.lst (List.replicate k.toNat xs).flatten))
theorem op_repL {X : Cx} : OpR X (binaryOp .Mult) (rRepL X.K) := by
  intro pins s σ H x y v u Q I rx ry h
  obtain ⟨l, k, xs, rfl, rfl, hH, h1, h2, hz, q⟩ := h
  cases rx
  obtain ⟨t, rfl⟩ := ry
  obtain ⟨its, r, ⟨⟨cls, dd, data, sl⟩, n, e, hc, hd, hs⟩, _⟩ := I.list hH
  simp only at hc hs
  subst hc hs
  have hlen : its.toArray.size * k.toNat ≤ sizeLine := by rw [List.size_toArray, ← r.length]; exact hz
  have hcap : ¬ its.toArray.size * k.toNat > (2 ^ 63 - 1) / 8 := by
    have : (sizeLine : Nat) ≤ (2 ^ 63 - 1) / 8 := by decide
    omega
  have hfit : ¬ (!Builtin.List.listFitsIndex k) = true := by
    rw [fitsIndex_both h1 h2]
    exact Bool.false_ne_true
  have hlong : ¬ Builtin.List.listTooLong (its.toArray.size * k.toNat) = true := by
    rw [notLongL hlen]
    exact Bool.false_ne_true
  have hnew : List.foldl (fun x1 x2 => x1 ++ x2) #[] (List.replicate (if its.toArray.isEmpty = true then 0 else k.toNat) its.toArray) = (List.replicate k.toNat its).flatten.toArray := by
    have f0 : ∀ m : Nat, List.foldl (fun x1 x2 => x1 ++ x2) #[] (List.replicate m its.toArray) = (List.replicate m its).flatten.toArray := fun m => by
      have := foldl_rep its m []
      rw [List.nil_append] at this
      exact this
    rw [f0]
    cases its with
    | nil => simp
    | cons a r' => rw [if_neg (by simp)]
  refine wpAny_binaryOp_repeat_ref (T := "list") (U := "int") (by decide) ⟨_, e, rfl⟩ (fun s' => typeIs_int s' k t) noFill_list_mul F.fills_int_mul F.slot_int_rmul repeat_list F.slot_int_index.lookup
    (call_meets F.slot_int_rmul (typeIs_int s k t) F.entry_int_rmul (F.args_int_rmul_2 _ _) (rmul_listW k t l its.toArray n dd sl)
      ⟨e, rfl, ⟨_, e, rfl⟩, call_meets F.slot_list_mul ⟨_, e, rfl⟩ F.entry_list_mul (F.args_list_mul_2 _ _) (list_mulW l its.toArray n dd sl k t hfit hcap hlong) ⟨e, ?_⟩⟩)
  rw [hnew]
  exact ⟨.ref _, _, I.lnew (t' := s.toks) (r.rep k.toNat) (by rw [PyProof.Rows.lm_len_rep_flat, Nat.mul_comm]; exact hz), rfl, q _ I.fresh⟩
end Mx
set_option maxHeartbeats 400000
namespace Mx
open PySem L2

theorem line_eq : (sizeLine : Nat) = line := by rw [sizeLine_eq]; rfl
section
variable {K : Frg} {M : AS} {H : Hp}
theorem dNon {v : V} : DOk K M H .non v ↔ v = .non := by unfold DOk; exact Iff.rfl
theorem dBl {b : Bool} {v : V} : DOk K M H (.bl b) v ↔ v = .bl b := by unfold DOk; exact Iff.rfl
theorem dInt {i : Int} {v : V} : DOk K M H (.int i) v ↔ v = .int i := by unfold DOk; exact Iff.rfl
theorem dStr {x : Str} {v : V} : DOk K M H (.str x) v ↔ v = .str x := by unfold DOk; exact Iff.rfl
theorem dTup {l : List D} {v : V} : DOk K M H (.tup l) v ↔ ∃ a xs, v = .ref a ∧ TupAt K M H a xs ∧ DsOk K M H l xs := by rw [DOk]
theorem dLst {l : List D} {v : V} : DOk K M H (.lst l) v ↔ ∃ a xs, v = .ref a ∧ LstAt K M H a xs ∧ DsOk K M H l xs := by rw [DOk]
end
mutual
theorem dp_of {K : Frg} {M : AS} {H : Hp} : ∀ (d : D) (v : V), DOk K M H d v → Dp K H v (toPy d)
  | .non, v, h => by rw [dNon] at h; subst h; exact .non
  | .bl b, v, h => by rw [dBl] at h; subst h; exact .bl b
  | .int i, v, h => by rw [dInt] at h; subst h; exact .int i
  | .str x, v, h => by rw [dStr] at h; subst h; exact .str x
  | .tup l, v, h => by
    rw [dTup] at h
    obtain ⟨a, xs, rfl, t, r⟩ := h
    exact .tup t.sq (dps_of l xs r)
  | .lst l, v, h => by
    rw [dLst] at h
    obtain ⟨a, xs, rfl, t, r⟩ := h
    exact .lst t.sq (dps_of l xs r)
theorem dps_of {K : Frg} {M : AS} {H : Hp} : ∀ (l : List D) (xs : List V), DsOk K M H l xs → DpAll K H xs (toPys l)
  | [], xs, h => by unfold DsOk at h; subst h; exact .nil
  | d :: ds, xs, h => by
    unfold DsOk at h
    obtain ⟨x, r, rfl, t, u⟩ := h
    exact .cons (dp_of d x t) (dps_of ds r u)
end
theorem flat_of {K : Frg} {M : AS} {H : Hp} {d : D} {v w : V} (h : DOk K M H d v) (e : flat d = some w) : v = w ∧ flatV w = true := by
  cases d with
  | non => rw [dNon] at h; cases e; exact ⟨h, rfl⟩
  | bl b => rw [dBl] at h; cases e; exact ⟨h, rfl⟩
  | int b => rw [dInt] at h; cases e; exact ⟨h, rfl⟩
  | str b => rw [dStr] at h; cases e; exact ⟨h, rfl⟩
  | tup l => cases e
  | lst l => cases e
theorem flats_of {K : Frg} {M : AS} {H : Hp} : ∀ {l : List D} {xs ws : List V}, DsOk K M H l xs → flats l = some ws → xs = ws ∧ ws.all flatV = true
  | [], xs, ws, h, e => by unfold DsOk at h; cases e; exact ⟨h, rfl⟩
  | d :: ds, xs, ws, h, e => by
    unfold DsOk at h
    obtain ⟨x, r, rfl, t, u⟩ := h
    unfold flats at e
    obtain ⟨v, e1, e2⟩ := Option.bind_eq_some_iff.mp e
    obtain ⟨r', e3, e4⟩ := Option.bind_eq_some_iff.mp e2
    cases e4
    obtain ⟨rfl, f1⟩ := flat_of t e1
    obtain ⟨rfl, f2⟩ := flats_of u e3
    exact ⟨rfl, by simp [f1, f2]⟩

/-! ### list + list, wherever they stand -/
def rCatL (K : Frg) : R2 := fun x y H Q => ∃ l b xs zs, x = .ref l ∧ y = .ref b ∧ SqL K H l xs ∧ SqL K H b zs ∧ xs.length + zs.length ≤ sizeLine ∧ ∀ p, H p = none → Q (.ref p) (upd H p (.lst (xs ++ zs)))
theorem op_catL {X : Cx} : OpR X (binaryOp .Add) (rCatL X.K) := by
  intro pins s σ H x y v u Q I rx ry h
  obtain ⟨l, b, xs, zs, rfl, rfl, hH, hB, hz, q⟩ := h
  cases rx
  cases ry
  obtain ⟨its, r, ⟨⟨c1, d1, a1, s1⟩, n, e, h1, h2, h3⟩, _⟩ := I.list hH
  obtain ⟨its2, r2, ⟨⟨c2, d2, a2, s2⟩, n2, e2, g1, g2, g3⟩, _⟩ := I.list hB
  simp only at h1 h3 g1 g3
  subst h1 h3 g1 g3
  have ea : its.toArray ++ its2.toArray = (its ++ its2).toArray := by simp
  refine PySem.concat_meets ⟨_, e, rfl⟩ ⟨_, e2, rfl⟩ PySem.noFill_list_add PySem.seq_list_add PySem.F.slot_list_add PySem.F.entry_list_add (PySem.F.args_list_add_2 _ _)
    (PyProof.Rows.list_addW l b its.toArray its2.toArray n n2 d1 d2 s1 s2 (by rw [List.size_toArray, List.size_toArray, ← r.length, ← r2.length]; exact hz)) ⟨e, e2, ?_⟩
  rw [ea]
  exact ⟨.ref _, _, I.lnew (t' := s.toks) (r.append r2) (by rw [List.length_append]; exact hz), rfl, q _ I.fresh⟩

/-! ### binary operators -/
section
variable {X : Cx} {Mo : AS} {C : CM} {H : Hp} {σ : St} {ρ : Rho} {np : Nat}
theorem new_tup {l : List D} {xs : List V} {p : Addr} {Q : VK} {ρ' : Rho} (E : Eok X.K Mo C none H σ ρ') (hd : DsOk X.K (MM Mo C none) H l xs) (hp : H p = none)
    (k : ∀ C' r v H', Eok X.K Mo C' r H' σ ρ' → EnOk X.K Mo C' r H' v (.imm (.tup l)) → Stp np C H C' r H' → Q v H') : Q (.ref p) (upd H p (.tup xs)) := by
  obtain ⟨E', S, M⟩ := E.grow (np := np) (H' := upd H p (.tup xs)) (r' := none) (upd_grow hp) (fun _ z => (nomatch z))
  refine k C none _ _ E' ⟨rfl, dTup.mpr ⟨p, xs, rfl, .inl ⟨.inl upd_same, ?_⟩, DsOk.mov M l xs hd⟩⟩ S
  rintro (m | ⟨i, m⟩ | m)
  · obtain ⟨o, q⟩ := E.out p m
    rw [hp] at q; cases q
  · obtain ⟨ys, q⟩ := E.trk m
    rw [hp] at q; cases q
  · cases m
theorem new_lst {l : List D} {xs : List V} {p : Addr} {Q : VK} {ρ' : Rho} (E : Eok X.K Mo C none H σ ρ') (hd : DsOk X.K (MM Mo C none) H l xs) (hp : H p = none)
    (k : ∀ C' r v H', Eok X.K Mo C' r H' σ ρ' → EnOk X.K Mo C' r H' v (.cel l) → Stp np C H C' r H' → Q v H') : Q (.ref p) (upd H p (.lst xs)) := by
  obtain ⟨E', S, M⟩ := E.grow (np := np) (H' := upd H p (.lst xs)) (r' := some p) (upd_grow hp) (fun a z => by cases z; exact hp)
  exact k C (some p) _ _ E' ⟨p, xs, rfl, rfl, upd_same, DsOk.mov M l xs hd⟩ S

theorem DsOk.rep {K : Frg} {M : AS} {H : Hp} {l : List D} {xs : List V} (h : DsOk K M H l xs) : ∀ n : Nat, DsOk K M H (List.replicate n l).flatten (List.replicate n xs).flatten
  | 0 => by unfold DsOk; rfl
  | n + 1 => DsOk.app h (DsOk.rep h n)
theorem bin_ok {op : Operator} {x y : D} {e : En} {v u : V} {Q : VK} (hop : binD op x y = some e) (E : Eok X.K Mo C none H σ ρ) (hx : DOk X.K (MM Mo C none) H x v) (hy : DOk X.K (MM Mo C none) H y u)
    (k : ∀ C' r w H', Eok X.K Mo C' r H' σ ρ → EnOk X.K Mo C' r H' w e → Stp np C H C' r H' → Q w H') : rAny X (binaryOp op) v u H Q := by
  have sc : ∀ {d : D} {w : V}, e = .imm d → (DOk X.K (MM Mo C none) H d w) → Q w H := fun {d w} q z => k C none w H E (by rw [q]; exact ⟨rfl, z⟩) Stp.refl
  unfold binD at hop
  split at hop
  · cases hop
    rw [dInt] at hx hy; subst hx hy
    exact ⟨_, op_add, _, _, rfl, rfl, sc rfl (dInt.mpr rfl)⟩
  · split at hop
    · rename_i hz
      cases hop
      rw [dStr] at hx hy; subst hx hy
      exact ⟨_, op_add_str, _, _, rfl, rfl, by rw [line_eq]; exact hz, sc rfl (dStr.mpr rfl)⟩
    · cases hop
  · split at hop
    · rename_i l m hz
      cases hop
      obtain ⟨a, xs, rfl, t1, r1⟩ := dTup.mp hx
      obtain ⟨b, ys, rfl, t2, r2⟩ := dTup.mp hy
      refine ⟨_, op_catA, a, b, xs, ys, rfl, rfl, t1.sq, t2.sq, by rw [line_eq, r1.len, r2.len]; exact hz, fun hx0 => ?_, fun hx0 hy0 => ?_, fun hx0 hy0 p hp => ?_⟩
      · subst hx0
        have l0 : l = [] := List.length_eq_zero_iff.mp r1.len.symm
        subst l0
        exact sc rfl hy
      · subst hy0
        have m0 : m = [] := List.length_eq_zero_iff.mp r2.len.symm
        subst m0
        exact sc rfl (by rw [List.append_nil]; exact hx)
      · exact new_tup E (DsOk.app r1 r2) hp k
    · cases hop
  · split at hop
    · rename_i l m hz
      cases hop
      obtain ⟨a, xs, rfl, t1, r1⟩ := dLst.mp hx
      obtain ⟨b, ys, rfl, t2, r2⟩ := dLst.mp hy
      refine ⟨_, op_catL, a, b, xs, ys, rfl, rfl, t1.sq, t2.sq, by rw [line_eq, r1.len, r2.len]; exact hz, fun p hp => ?_⟩
      exact new_lst E (DsOk.app r1 r2) hp k
    · cases hop
  · cases hop
    rw [dInt] at hx hy; subst hx hy
    exact ⟨_, op_sub, _, _, rfl, rfl, sc rfl (dInt.mpr rfl)⟩
  · split at hop
    · rename_i hz
      cases hop
      rw [dInt] at hx hy; subst hx hy
      refine ⟨_, op_mul, _, _, rfl, rfl, ?_, sc rfl (dInt.mpr rfl)⟩
      unfold mulOk at hz
      simp only [Bool.or_eq_true, Bool.and_eq_true, decide_eq_true_eq] at hz
      exact hz
    · cases hop
  · split at hop
    · rename_i l kk hz
      cases hop
      obtain ⟨a, xs, rfl, t1, r1⟩ := dLst.mp hx
      rw [dInt] at hy; subst hy
      refine ⟨_, op_repL, a, kk, xs, rfl, rfl, t1.sq, hz.1, hz.2.1, by rw [line_eq, r1.len]; exact hz.2.2, fun p hp => ?_⟩
      exact new_lst E (DsOk.rep r1 kk.toNat) hp k
    · cases hop
  · split at hop
    · rename_i l kk hz
      cases hop
      obtain ⟨a, xs, rfl, t1, r1⟩ := dTup.mp hx
      rw [dInt] at hy; subst hy
      refine ⟨_, op_repT, a, kk, xs, rfl, rfl, t1.sq, fun h0 => hz.1 (by subst h0; exact List.length_eq_zero_iff.mp r1.len.symm), hz.2.1, hz.2.2.1, by rw [r1.len]; exact hz.2.2.2, fun p hp => ?_⟩
      exact new_tup E (DsOk.rep r1 kk.toNat) hp k
    · cases hop
  · split at hop
    · rename_i hz
      cases hop
      rw [dInt] at hx hy; subst hx hy
      exact ⟨_, op_fdivW, _, _, rfl, rfl, wide_div (b := 64) hz.1 (by omega) (by decide) (by decide), sc rfl (dInt.mpr rfl)⟩
    · cases hop
  · split at hop
    · rename_i hz
      cases hop
      rw [dInt] at hx hy; subst hx hy
      exact ⟨_, op_mod, _, _, rfl, rfl, hz, sc rfl (dInt.mpr rfl)⟩
    · cases hop
  · split at hop
    · rename_i hz
      cases hop
      rw [dInt] at hx hy; subst hx hy
      exact ⟨_, op_pow, _, _, rfl, rfl, ⟨hz.1, by omega, hz.2.2⟩, sc rfl (dInt.mpr rfl)⟩
    · cases hop
  · cases hop

/-! ### comparisons -/
theorem non_iff {M : AS} {x : D} {v : V} (h : DOk X.K M H x v) : (v = .non) ↔ (x = .non) := by
  cases x with
  | non => rw [dNon] at h; simp [h]
  | bl b => rw [dBl] at h; simp [h]
  | int b => rw [dInt] at h; simp [h]
  | str b => rw [dStr] at h; simp [h]
  | tup l => obtain ⟨a, xs, rfl, _⟩ := dTup.mp h; simp
  | lst l => obtain ⟨a, xs, rfl, _⟩ := dLst.mp h; simp

theorem eqD_deep {M1 M2 : AS} {x y : D} {b : Bool} {v u : V} {Q : VK} (hr : Room 1 X.A) (h : (if SeqAt.shaped (toPy x) && SeqAt.shaped (toPy y) then some (PyData.eqv (toPy x) (toPy y)) else none) = some b)
    (hx : DOk X.K M1 H x v) (hy : DOk X.K M2 H y u) : (Q (.bl b) H → rAny X (compareOp .Eq) v u H Q) ∧ (Q (.bl (!b)) H → rAny X (compareOp .NotEq) v u H Q) := by
  split at h
  · rename_i hs
    cases h
    rw [Bool.and_eq_true] at hs
    exact ⟨fun q => ⟨_, op_eqD hr.units, _, _, dp_of x v hx, dp_of y u hy, hs.1, hs.2, q⟩, fun q => ⟨_, op_neD hr.units, _, _, dp_of x v hx, dp_of y u hy, hs.1, hs.2, q⟩⟩
  · cases h
theorem eqD_ok {M1 M2 : AS} {x y : D} {b : Bool} {v u : V} {Q : VK} (hr : Room 1 X.A) (h : eqD x y = some b) (hx : DOk X.K M1 H x v) (hy : DOk X.K M2 H y u) :
    (Q (.bl b) H → rAny X (compareOp .Eq) v u H Q) ∧ (Q (.bl (!b)) H → rAny X (compareOp .NotEq) v u H Q) := by
  unfold eqD at h
  split at h
  · cases h
    rw [dInt] at hx hy; subst hx hy
    refine ⟨fun q => ⟨_, op_eq, rfl, ?_⟩, fun q => ⟨_, op_ne, rfl, ?_⟩⟩
    · simpa using q
    · simpa using q
  · cases h
    rw [dStr] at hx hy; subst hx hy
    refine ⟨fun q => ⟨_, op_eq, rfl, ?_⟩, fun q => ⟨_, op_ne, rfl, ?_⟩⟩
    · simpa using q
    · simpa using q
  · cases h
    rw [dBl] at hx hy; subst hx hy
    refine ⟨fun q => ⟨_, op_eq, rfl, ?_⟩, fun q => ⟨_, op_ne, rfl, ?_⟩⟩
    · simpa using q
    · simpa using q
  · exact eqD_deep hr h hx hy
theorem inD_ok {M1 M2 : AS} {x y : D} {b : Bool} {v u : V} {Q : VK} (hr : Room 1 X.A) (h : inD x y = some b) (hx : DOk X.K M1 H x v) (hy : DOk X.K M2 H y u) :
    (Q (.bl b) H → rAny X (compareOp .In) v u H Q) ∧ (Q (.bl (!b)) H → rAny X (compareOp .NotIn) v u H Q) := by
  unfold inD at h
  split at h
  · rename_i l
    rcases Option.or_eq_some_iff.mp h with h | ⟨_, h⟩
    · obtain ⟨w, e1, e2⟩ := Option.bind_eq_some_iff.mp h
      obtain ⟨ws, e3, e4⟩ := Option.bind_eq_some_iff.mp e2
      cases e4
      obtain ⟨a, xs, rfl, t, r⟩ := dLst.mp hy
      obtain ⟨rfl, f1⟩ := flat_of hx e1
      obtain ⟨rfl, f2⟩ := flats_of r e3
      exact ⟨fun q => ⟨_, op_in_seq, a, xs, rfl, .inl t.sq, f1, f2, q⟩, fun q => ⟨_, op_notIn_seq, a, xs, rfl, .inl t.sq, f1, f2, q⟩⟩
    · split at h
      · rename_i hs
        cases h
        rw [Bool.and_eq_true] at hs
        exact ⟨fun q => ⟨_, op_inD (by have := hr.un; omega), _, _, dp_of x v hx, dp_of _ u hy, hs.1, hs.2, q⟩, fun q => ⟨_, op_notInD (by have := hr.un; omega), _, _, dp_of x v hx, dp_of _ u hy, hs.1, hs.2, q⟩⟩
      · cases h
  · obtain ⟨w, e1, e2⟩ := Option.bind_eq_some_iff.mp h
    obtain ⟨ws, e3, e4⟩ := Option.bind_eq_some_iff.mp e2
    cases e4
    obtain ⟨a, xs, rfl, t, r⟩ := dTup.mp hy
    obtain ⟨rfl, f1⟩ := flat_of hx e1
    obtain ⟨rfl, f2⟩ := flats_of r e3
    exact ⟨fun q => ⟨_, op_in_seq, a, xs, rfl, .inr t.sq, f1, f2, q⟩, fun q => ⟨_, op_notIn_seq, a, xs, rfl, .inr t.sq, f1, f2, q⟩⟩
  · cases h
/-! ### t < u -/
theorem kinds_lex {K : Frg} {M1 M2 : AS} {H : Hp} {A : Around} {s : Shared} : ∀ {l m : List D} {xs ys : List V} {us ws : List Value}, kinds l m = true → DsOk K M1 H l xs → DsOk K M2 H m ys → Vals xs us → Vals ys ws →
    ∃ e r : Nat → Bool, (∀ j (h1 : j < us.length) (h2 : j < ws.length), PySem.SeqAt.EqAt A.in1 s us[j] ws[j] (e j)) ∧ (∀ j (h1 : j < us.length) (h2 : j < ws.length), e j = false → Ob.RcOp .Lt A.in1 s us[j] ws[j] (r j)) ∧
      Ob.lexAt e r (decide (us.length < ws.length)) 0 (min us.length ws.length) = ltL l m := by
  have sh : ∀ (e r : Nat → Bool) (e0 r0 z : Bool) (i k : Nat), Ob.lexAt (fun j => match j with | 0 => e0 | j + 1 => e j) (fun j => match j with | 0 => r0 | j + 1 => r j) z (i + 1) k = Ob.lexAt e r z i k := by
    intro e r e0 r0 z i k
    induction k generalizing i with
    | zero => rfl
    | succ k ih => rw [Ob.lexAt_succ, Ob.lexAt_succ, ih]
  intro l
  induction l with
  | nil =>
    intro m xs ys us ws _ h1 h2 r1 r2
    unfold DsOk at h1
    subst h1
    cases r1
    refine ⟨fun _ => false, fun _ => false, fun j h _ => absurd h (by simp), fun j h _ _ => absurd h (by simp), ?_⟩
    rw [List.length_nil, Nat.zero_min]
    cases m with
    | nil =>
      unfold DsOk at h2
      subst h2
      cases r2
      rfl
    | cons d m =>
      unfold DsOk at h2
      obtain ⟨y, yr, rfl, _, _⟩ := h2
      cases r2
      exact decide_eq_true (by simp)
  | cons d l ih =>
    intro m xs ys us ws hk h1 h2 r1 r2
    unfold DsOk at h1
    obtain ⟨x, xr, rfl, dx, h1⟩ := h1
    obtain ⟨u, us, rfl, rx, r1⟩ : ∃ u us', us = u :: us' ∧ RelV x u ∧ Vals xr us' := by
      cases r1 with
      | cons a b => exact ⟨_, _, rfl, a, b⟩
    cases m with
    | nil =>
      unfold DsOk at h2
      subst h2
      cases r2
      refine ⟨fun _ => false, fun _ => false, fun j _ h => absurd h (by simp), fun j _ h _ => absurd h (by simp), ?_⟩
      rw [List.length_nil, Nat.min_zero]
      have z : ltL (d :: l) [] = false := by cases d <;> rfl
      rw [z]
      exact decide_eq_false (by simp)
    | cons d' m =>
      unfold DsOk at h2
      obtain ⟨y, yr, rfl, dy, h2⟩ := h2
      obtain ⟨w, ws, rfl, ry, r2⟩ : ∃ w ws', ws = w :: ws' ∧ RelV y w ∧ Vals yr ws' := by
        cases r2 with
        | cons a b => exact ⟨_, _, rfl, a, b⟩
      have fin : ∀ (e0 r0 : Bool), kinds l m = true → ltL (d :: l) (d' :: m) = (if e0 = true then ltL l m else r0) → PySem.SeqAt.EqAt A.in1 s u w e0 → (e0 = false → Ob.RcOp .Lt A.in1 s u w r0) →
          ∃ e r : Nat → Bool, (∀ j (h1 : j < (u :: us).length) (h2 : j < (w :: ws).length), PySem.SeqAt.EqAt A.in1 s (u :: us)[j] (w :: ws)[j] (e j)) ∧ (∀ j (h1 : j < (u :: us).length) (h2 : j < (w :: ws).length), e j = false → Ob.RcOp .Lt A.in1 s (u :: us)[j] (w :: ws)[j] (r j)) ∧
            Ob.lexAt e r (decide ((u :: us).length < (w :: ws).length)) 0 (min (u :: us).length (w :: ws).length) = ltL (d :: l) (d' :: m) := by
        intro e0 r0 hk' hl he hr
        obtain ⟨e, r, q1, q2, q3⟩ := ih hk' h1 h2 r1 r2
        refine ⟨fun j => match j with | 0 => e0 | j + 1 => e j, fun j => match j with | 0 => r0 | j + 1 => r j, fun j a b => ?_, fun j a b z => ?_, ?_⟩
        · cases j with
          | zero => exact he
          | succ j => exact q1 j (by simpa using a) (by simpa using b)
        · cases j with
          | zero => exact hr z
          | succ j => exact q2 j (by simpa using a) (by simpa using b) z
        · rw [hl, List.length_cons, List.length_cons, show min (us.length + 1) (ws.length + 1) = min us.length ws.length + 1 by omega, Ob.lexAt_succ, sh]
          show (if e0 = true then _ else r0) = _
          rw [show decide (us.length + 1 < ws.length + 1) = decide (us.length < ws.length) from decide_eq_decide.mpr (by omega), q3]
      have bq : ∀ {α : Type} [BEq α] [LawfulBEq α] [DecidableEq α] (a b : α), (a == b) = decide (a = b) := fun a b => by
        by_cases q : a = b
        · rw [decide_eq_true q]; exact beq_iff_eq.mpr q
        · rw [decide_eq_false q]; exact beq_eq_false_iff_ne.mpr q
      cases d with
      | int i =>
        cases d' with
        | int j =>
          rw [dInt] at dx dy
          subst dx dy
          obtain ⟨t, rfl⟩ := rx
          obtain ⟨t', rfl⟩ := ry
          refine fin (decide (i = j)) (decide (i < j)) hk ?_ (by rw [← bq]; exact PySem.SeqAt.EqAt.int_int _ _ _ _) fun _ => Ob.RcOp.lt_int _ _ _ _
          show (if i = j then _ else _) = _
          by_cases q : i = j <;> simp [q]
        | _ => cases hk
      | str i =>
        cases d' with
        | str j =>
          rw [dStr] at dx dy
          subst dx dy
          obtain ⟨t, rfl⟩ := rx
          obtain ⟨t', rfl⟩ := ry
          refine fin (decide (i = j)) (decide (i.cps.toList < j.cps.toList)) hk ?_ (by rw [← bq]; exact PySem.SeqAt.EqAt.str_str _ _ _ _) fun _ => fun prog w E Q h => PyProof.Rows.lt_str h
          show (if i = j then _ else _) = _
          by_cases q : i = j <;> simp [q]
        | _ => cases hk
      | non => cases hk
      | bl _ => cases hk
      | tup _ => cases hk
      | lst _ => cases hk
theorem ltK_ok {X : Cx} {M1 M2 : AS} {H : Hp} {l m : List D} {v u : V} {Q : VK} (hu : X.A.units < cLine) (hk : kinds l m = true) (hx : DOk X.K M1 H (.tup l) v) (hy : DOk X.K M2 H (.tup m) u) (q : Q (.bl (ltL l m)) H) :
    rAny X (compareOp .Lt) v u H Q := by
  obtain ⟨a, xs, rfl, t1, d1⟩ := dTup.mp hx
  obtain ⟨b, ys, rfl, t2, d2⟩ := dTup.mp hy
  refine ⟨fun x y H' Q' => x = .ref a ∧ y = .ref b ∧ H' = H ∧ Q' (.bl (ltL l m)) H, ?_, rfl, rfl, rfl, q⟩
  rintro pins s σ H' x y v u Q' I rx ry ⟨rfl, rfl, rfl, q⟩
  cases rx
  cases ry
  obtain ⟨its, r1, p1, _⟩ := I.tuple t1.sq
  obtain ⟨its2, r2, p2, _⟩ := I.tuple t2.sq
  obtain ⟨e, r, z1, z2, z3⟩ := kinds_lex (A := X.A) (s := s) hk d1 d2 r1 r2
  have R := Ob.RcOp.tuples_lt (A := X.A) (s := s) (e := e) (r := r) p1 p2 hu (fun j h1 h2 => by simpa using z1 j (by simpa using h1) (by simpa using h2)) (fun j h1 h2 z => by simpa using z2 j (by simpa using h1) (by simpa using h2) z)
  rw [List.size_toArray, List.size_toArray, z3] at R
  exact R X.prog X.w X.xe (EP X pins σ Q') ⟨.bl _, H', I, rfl, q⟩
theorem cmp_ok {M1 M2 : AS} {op : CmpOp} {x y : D} {b : Bool} {v u : V} {Q : VK} (hr : Room 1 X.A) (h : cmpD op x y = some b) (hx : DOk X.K M1 H x v) (hy : DOk X.K M2 H y u) (q : Q (.bl b) H) :
    rAny X (compareOp op) v u H Q := by
  unfold cmpD at h
  split at h
  · exact (eqD_ok hr h hx hy).1 q
  · obtain ⟨c, e1, e2⟩ := Option.map_eq_some_iff.mp h
    subst e2
    exact (eqD_ok hr e1 hx hy).2 q
  · cases h
    rw [dInt] at hx hy; subst hx hy
    exact ⟨_, op_lt, _, _, rfl, rfl, q⟩
  · split at h
    · rename_i hk
      cases h
      exact ltK_ok (by have := hr.un; omega) hk hx hy q
    · cases h
  · cases h
    rw [dInt] at hx hy; subst hx hy
    exact ⟨_, op_le, _, _, rfl, rfl, q⟩
  · cases h
    rw [dInt] at hx hy; subst hx hy
    exact ⟨_, op_gt, _, _, rfl, rfl, q⟩
  · cases h
    rw [dInt] at hx hy; subst hx hy
    exact ⟨_, op_ge, _, _, rfl, rfl, q⟩
  · exact (inD_ok hr h hx hy).1 q
  · obtain ⟨c, e1, e2⟩ := Option.map_eq_some_iff.mp h
    subst e2
    exact (inD_ok hr e1 hx hy).2 q
  · cases h
    rw [dNon] at hx hy; subst hx hy
    exact ⟨_, op_isN, rfl, q⟩
  · rename_i hne
    cases h
    have n1 := not_congr (non_iff hx)
    rw [dNon] at hy; subst hy
    refine ⟨_, op_isN, rfl, ?_⟩
    have : v ≠ .non := n1.mpr hne
    simpa [this] using q
  · cases h
    rw [dNon] at hx hy; subst hx hy
    exact ⟨_, op_notN, rfl, q⟩
  · rename_i hne
    cases h
    have n1 := not_congr (non_iff hx)
    rw [dNon] at hy; subst hy
    refine ⟨_, op_notN, rfl, ?_⟩
    have : v ≠ .non := n1.mpr hne
    simpa [this] using q
  · cases h
end

/-! ### lists of expressions -/
theorem star_no {e : Expr} {es : List Expr} {env : Env} (h : isStar e = false) : starEach (e :: es) env = (false, eval e env) :: starEach es env := by
  cases e <;> first | rfl | cases h
theorem plain_args : ∀ {es : List Expr} {env : Env} {pos : Pos}, (∀ e ∈ es, isStar e = false) → (backTo pos (starEach es env)).any (·.1) = false
  | [], _, _, _ => rfl
  | e :: es, env, pos, h => by
    rw [star_no (h e List.mem_cons_self)]
    show (false || (backTo pos (starEach es env)).any (·.1)) = false
    rw [plain_args fun x hx => h x (List.mem_cons_of_mem _ hx)]
    rfl
theorem evLw_star {ev : Expr → Rho → Option (En × Rho)} : ∀ {es : List Expr} {ρ : Rho} {r}, evLw ev es ρ = some r → ∀ e ∈ es, isStar e = false
  | [], _, _, _, _, h => (nomatch h)
  | e :: es, ρ, r, h, x, hx => by
    unfold evLw at h
    split at h
    · cases h
    · rename_i ns
      obtain ⟨p, _, h2⟩ := Option.bind_eq_some_iff.mp h
      obtain ⟨q, h3, _⟩ := Option.bind_eq_some_iff.mp h2
      rcases List.mem_cons.mp hx with rfl | hx
      · simpa using ns
      · exact evLw_star h3 x hx
theorem evLw_ok {X : Cx} {np : Nat} {ev : Expr → Rho → Option (En × Rho)} (hev : ∀ e, PE X e (tD np X.K (ev e))) : ∀ es : List Expr, PA X es (tL np X.K (evLw ev es))
  | [] => by
    refine PA.of fun σ H Q h => ⟨_, pa_nil, ?_⟩
    obtain ⟨Mo, C, ρ, d, ρ', E, hF, k⟩ := h
    cases hF
    exact k C [] H E DsOk.nil Stp.refl
  | e :: es => by
    refine PA.of fun σ H Q h => ?_
    obtain ⟨Mo, C, ρ, d, ρ', E, hF, k⟩ := h
    have ns := evLw_star hF e List.mem_cons_self
    unfold evLw at hF
    rw [if_neg (by simp [ns])] at hF
    obtain ⟨p, h1, h2⟩ := Option.bind_eq_some_iff.mp hF
    obtain ⟨q, h3, h4⟩ := Option.bind_eq_some_iff.mp h2
    cases h4
    refine ⟨_, pa_cons (hev e).toI (evLw_ok hev es) (star_no ns), ?_⟩
    refine ⟨Mo, C, ρ, p.1, p.2, E, h1, fun C1 v H1 E1 d1 s1 => ?_⟩
    refine ⟨Mo, C1, p.2, q.1, q.2, E1, h3, fun C2 vs H2 E2 d2 s2 => ?_⟩
    exact k C2 (v :: vs) H2 E2 (DsOk.cons (DOk.mov (s2.mov E1.out) _ _ d1) d2) (s1.trans s2)
end Mx
set_option maxHeartbeats 400000
/-! ## x[::-1] -/
namespace L2
open PySem PySem.Spec PyProof.Rows
def MxRv (X : Cx) (r : V → Hp → VK → Prop) : Prop :=
  ∀ (pins : List (Addr × Obj)) (s : Shared) (σ : St) (H : Hp) (x : V) (v vs : Value) (sl : Addr) (Q : VK), Inv X pins σ H s → RelV x v → s.heap.IsSliceOf sl .none .none vs → IsPart vs (some (-1)) → r x H Q →
    ∃ T id, typeLookup (.type T) "__getitem__" = pure (some (.builtin id)) ∧ s.TypeIs v T ∧ wpAny (model X.prog X.w) X.A (getItem v (.ref sl)) (EP X pins σ Q) X.xe s
section
variable {X : Cx}
theorem mx_pe_rev {e st : Expr} {te : TE} {r : V → Hp → VK → Prop} {p2 pos : Pos} (hr : MxRv X r) (he : PE X e te) (hst : PE X st (tC (.int (-1)))) : PE X (.Subscript e (.Slice none none (some st) p2) pos) (fun σ H Q => te σ H fun x H1 => r x H1 Q) := by
  refine ⟨fun pins s σ H Q I h => ?_⟩
  refine Subscript_ (thn (he.run pins s σ H _ I h) fun v s1 ⟨x, H1, I1, r1, q1⟩ => ?_)
  refine wpAny_Slice ?_
  rw [evalPart_none]
  refine wpAny_pure ?_
  refine wpAny_pure ?_
  refine wpAny_evalPart_some (thn (hst.run pins s1 σ H1 (fun y H2 => y = .int (-1) ∧ r x H2 Q) I1 ⟨rfl, q1⟩) fun u s2 ⟨y, H2, I2, r2, e2, q2⟩ => ?_)
  subst e2
  obtain ⟨t, rfl⟩ := r2
  have I4 : Inv X pins σ H2 { s2 with heap := s2.heap.push { cls := .type "slice", data := .fields #[.none, .none, .int (-1) t] } } := I2.kept (t' := s2.toks) fun b ob q => Heap.get?_push_of_some _ q
  obtain ⟨T, id, hT, ht, hg⟩ := hr pins { s2 with heap := s2.heap.push { cls := .type "slice", data := .fields #[.none, .none, .int (-1) t] } } σ H2 x v (.int (-1) t) s2.heap.objs.size Q I4 r1 (Heap.IsSliceOf.new ..) (.int (-1) t) q2
  show wpAny (model X.prog X.w) X.A (subscriptTail e (.Slice none none (some st) p2) v (.ref s2.heap.objs.size)) (EP X pins σ Q) X.xe { s2 with heap := s2.heap.push { cls := .type "slice", data := .fields #[.none, .none, .int (-1) t] } }
  exact tail_any (ops := [v, .ref s2.heap.objs.size]) ht hT hg (by with_unfolding_all rfl)
theorem mx_rv_list : MxRv X (fun x H Q => ∃ a xs, x = .ref a ∧ SqL X.K H a xs ∧ ∀ p, H p = none → Q (.ref p) (upd H p (.lst xs.reverse))) := by
  intro pins s σ H x v vs sl Q I rx hs ps h
  obtain ⟨a, xs, rfl, hx, q⟩ := h
  cases rx
  obtain ⟨its, r, ht, hz⟩ := I.list hx
  have hlen := r.length
  refine ⟨"list", _, slot_list_getitem.lookup, ht.isList.typeIs, ?_⟩
  refine wpAny_getItem_list_slice ht.isList hs .none .none ps (by decide) ?_ (by rw [List.size_toArray] <;> omega)
  rw [PySem.W.krv_pick]
  refine ⟨.ref s.heap.objs.size, _, I.laid (t' := s.toks) (o := .lst xs.reverse) (fun b ob q => Heap.get?_push_of_some _ q) (Nat.le_refl _) ?_, rfl, q _ (I.hok.fresh (Nat.le_refl _))⟩
  exact ⟨by rw [List.length_reverse]; exact hz, its.reverse, 0, r.reverse, Heap.get?_push_size _ rfl⟩
theorem mx_adj_rev (n : Nat) : Builtin.Slice.sliceAdjust none none (-1) (n : Int) = ((n : Int) - 1, -1) := by
  unfold Builtin.Slice.sliceAdjust
  rfl
theorem mx_places_rev (n : Nat) : Builtin.Slice.slicePlaces ((n : Int) - 1) (-1) (-1) = n := by
  unfold Builtin.Slice.slicePlaces
  have h1 : ¬ ((-1 : Int) > 0) := by omega
  simp only [h1, if_false]
  split
  · rw [show (- -1 : Int) = 1 by decide, Int.ediv_one]
    omega
  · omega
theorem mx_applied_rev {prog : Program} {w : World} {A : Around} {E : Value → Shared → Prop} {s : Shared} {sl : Addr} {vs : Value} {n : Nat} {Q : Int × Int × Nat → Shared → Prop} (hs : s.heap.IsSliceOf sl .none .none vs) (ps : IsPart vs (some (-1)))
    (h : Q ((n : Int) - 1, -1, n) s) : wpAny (model prog w) A (Builtin.Slice.sliceApplied (.ref sl) (pure (n : Int))) Q E s := by
  obtain ⟨os, hos, hcs, hds⟩ := id hs
  unfold Builtin.Slice.sliceApplied Builtin.Slice.sliceFields
  refine wpAny_bind (wpAny_bind (wpAny_field hos hds (x := .none) rfl (wpAny_bind (wpAny_field hos hds (x := .none) rfl (wpAny_bind (wpAny_field hos hds (x := vs) rfl (wpAny_pure ?_)))))))
  refine wpAny_bind (HT.slicePart_ ps ?_)
  show wpAny _ _ (if ((-1 : Int) == 0) = true then _ else _) _ _ s
  rw [if_neg (by decide)]
  refine wpAny_bind (HT.slicePart_ .none (wpAny_bind (HT.slicePart_ .none (wpAny_bind (wpAny_pure ?_)))))
  show wpAny _ _ (match Builtin.Slice.sliceAdjust none none (-1) (n : Int) with | (lo, hi) => pure (lo, (-1 : Int), Builtin.Slice.slicePlaces lo hi (-1))) _ _ s
  rw [mx_adj_rev n]
  show wpAny _ _ (pure ((n : Int) - 1, (-1 : Int), Builtin.Slice.slicePlaces ((n : Int) - 1) (-1) (-1))) _ _ s
  rw [mx_places_rev]
  exact wpAny_pure h
theorem mx_fm {α β : Type} {f g : α → Option β} : ∀ (l : List α), (∀ x ∈ l, f x = g x) → l.filterMap f = l.filterMap g
  | [], _ => rfl
  | x :: l, h => by
    rw [List.filterMap_cons, List.filterMap_cons, h x List.mem_cons_self, mx_fm l fun y hy => h y (List.mem_cons_of_mem _ hy)]
theorem mx_pick_rev (xs : Array Value) : ((List.range xs.size).filterMap fun (m : Nat) => xs[((xs.size : Int) - 1 + (m : Int) * (-1)).toNat]?).toArray = xs.toList.reverse.toArray := by
  congr 1
  have e : ((List.range xs.size).filterMap fun (m : Nat) => xs[((xs.size : Int) - 1 + (m : Int) * (-1)).toNat]?) = (List.range xs.size).filterMap fun m => xs[xs.size - 1 - m]? := by
    refine mx_fm _ fun m hm => ?_
    have := List.mem_range.mp hm
    congr 1
    omega
  rw [e]
  have : ((List.range xs.size).filterMap fun m => xs[xs.size - 1 - m]?) = ((List.range xs.size).map fun k => xs.size - 1 - k).filterMap (xs[·]?) := by
    rw [List.filterMap_map]; rfl
  rw [this, PySem.W.krv_range, List.filterMap_reverse, PySem.W.krv_all]
theorem mx_rv_tup : MxRv X (fun x H Q => ∃ a xs, x = .ref a ∧ SqT X.K H a xs ∧ ∀ p, H p = none → Q (.ref p) (upd H p (.tup xs.reverse))) := by
  intro pins s σ H x v vs sl Q I rx hs ps h
  obtain ⟨a, xs, rfl, hx, q⟩ := h
  cases rx
  obtain ⟨its, r, ht, hz⟩ := I.tuple hx
  have hlen : its.toArray.size = xs.length := by rw [List.size_toArray]; exact r.length.symm
  refine ⟨"tuple", _, PyProof.Rows.slot_tuple_getitem.lookup, ht.typeIs, ?_⟩
  have fin : EP X pins σ Q (.ref s.heap.objs.size) { s with heap := s.heap.push { cls := .type "tuple", data := .seq its.reverse.toArray } } := by
    refine ⟨.ref s.heap.objs.size, _, I.laid (t' := s.toks) (o := .tup xs.reverse) (fun b ob q => Heap.get?_push_of_some _ q) (Nat.le_refl _) ?_, rfl, q _ (I.hok.fresh (Nat.le_refl _))⟩
    exact ⟨by rw [List.length_reverse]; exact hz, its.reverse, r.reverse, IsTup.new _ _⟩
  have htake : sizeOk (.seq its.reverse.toArray) := by
    show its.reverse.toArray.size ≤ sizeLine
    rw [List.size_toArray, List.length_reverse]
    have := r.length
    omega
  obtain ⟨os, hos, hcs, hds⟩ := id hs
  have hTs : s.TypeIs (.ref sl) "slice" := ⟨os, hos, hcs⟩
  unfold getItem
  try with_reducible refine wpAny_holding ?_
  first | refine wpAny_bind (wpAny_pure ?_) | skip
  refine wpAny_bind (wpAny_sequenceKey ht.typeIs (by decide) ?_)
  refine wpAny_bind (wpAny_callSpecial?_slot (name := Str.ofString "__getitem__") ht.typeIs PyProof.Rows.slot_tuple_getitem
    (wpAny_call_entry PyProof.Rows.slot_tuple_getitem ht.typeIs entry_tuple_getitem ?_ (args_tuple_getitem _ _)))
  show wpAny _ _ (Builtin.Tuple.tupleItemsOf (.ref a) >>= _) _ _ s
  refine wpAny_bind (tupleItemsOf_ ht ?_)
  refine wpAny_bind (wpAny_typeOf hTs ?_)
  rw [if_pos (by decide)]
  refine wpAny_bind (mx_applied_rev hs ps ?_)
  show wpAny _ _ (if ((((its.toArray.size : Int) - 1) == 0 && (-1 : Int) == 1 && its.toArray.size == its.toArray.size) = true) then _ else _) _ _ s
  rw [if_neg (by
    intro z
    rw [Bool.and_eq_true, Bool.and_eq_true] at z
    exact absurd z.1.2 (by decide)), mx_pick_rev]
  first
    | exact wpAny_bind (m := Builtin.Tuple.tupleExact _) (wpAny_newObj_type (wpAny_pure ⟨_, rfl, wpAny_pure fin⟩) htake)
    | exact wpAny_bind (m := Builtin.Tuple.tupleExact _) (wpAny_newObj_type (wpAny_bind (wpAny_pure (wpAny_pure ⟨_, rfl, wpAny_pure fin⟩))) htake)
    | exact wpAny_bind (wpAny_bind (m := Builtin.Tuple.tupleExact _) (wpAny_newObj_type (wpAny_pure (wpAny_pure ⟨_, rfl, wpAny_pure fin⟩)) htake))
    | exact wpAny_bind (wpAny_bind (m := Builtin.Tuple.tupleExact _) (wpAny_newObj_type (wpAny_pure ⟨_, rfl, wpAny_pure fin⟩) htake))
/-- a text turned about -/
def mxRev (z : Str) : Str := ⟨((Builtin.Str.strSliceIndices none none (-1) z.length).filterMap (z.cps[·]?)).toArray⟩
theorem mxRev_len (z : Str) : (mxRev z).length = z.length := by
  have h := step_rev_len z 0
  unfold Txt.sliceBy slicePicked at h
  rw [if_neg (by
    show ¬ ((((some ((-1 : Int), (0 : Tok))).map (·.1)).getD 1 == 1) && _) = true
    rw [show (((some ((-1 : Int), (0 : Tok))).map (·.1)).getD 1 == 1) = false from rfl]
    simp)] at h
  exact h
theorem mx_rv_str : MxRv X (fun x H Q => ∃ z, x = .str z ∧ z.length ≤ sizeLine ∧ Q (.str (mxRev z)) H) := by
  intro pins s σ H x v vs sl Q I rx hs ps h
  obtain ⟨z, rfl, hz, q⟩ := h
  obtain ⟨t, rfl⟩ := rx
  obtain ⟨os, hos, hcs, hds⟩ := hs
  obtain ⟨l, rfl, e⟩ := IsPart.raw ps
  have hl : (mxRev z).length ≤ sizeLine := by rw [mxRev_len]; exact hz
  refine ⟨"str", _, F.slot_str_getitem.lookup, typeIs_str _ _ _, ?_⟩
  cases l with
  | none => cases e
  | some p =>
    obtain ⟨i, t'⟩ := p
    have ei : i = -1 := by cases e; rfl
    subst ei
    refine wpAny_getItem_str_slice (l := none) (u := none) (st := some (-1, t')) ⟨os, hos, hcs, hds⟩ rfl ?_
    show Made.post (if ((-1 : Int) == 1 && (Builtin.Str.strSliceIndices none none (-1) z.length).length == z.length) = true then Made.val (.str z t)
      else Made.str (mxRev z)) (EP X pins σ Q) s
    rw [if_neg (by rw [show ((-1 : Int) == 1) = false from rfl]; simp)]
    exact ⟨hl, .str _, H, I.tok _, ⟨_, rfl⟩, q⟩
end
end L2
set_option maxHeartbeats 400000
/-! ## Sets of tuples of numbers and texts -/
namespace Ms
open PySem PySem.Spec PyProof.Rows L2
abbrev Ky := List Key
abbrev IsK (P : Program) (w : World) (h : Heap) (k : Ky) (b : Addr) : Prop := IsTupleKey (mixKind P w) h k b
abbrev hk (P : Program) (w : World) (k : Ky) : Int := tupleKeyHash (mixKind P w) k
section
variable {P : Program} {w : World} {A : Around} {E : Value → Shared → Prop} {s : Shared}
/-- what stands in such a tuple -/
def Flt (v : Value) : Prop := (∃ i t, v = .int i t) ∨ ∃ x t, v = .str x t
theorem flt_of {k : Ky} {vs : List Value} (h : ItemsAre (mixKind P w) k vs) : ∀ v ∈ vs, Flt v := by
  induction h with
  | nil => exact fun v z => nomatch z
  | cons h1 _ ih =>
    intro v z
    rcases List.mem_cons.mp z with rfl | z
    · rcases keyIs_shape h1 with ⟨i, t, _, e⟩ | ⟨x, t, _, e⟩
      · exact .inl ⟨i, t, e⟩
      · exact .inr ⟨x, t, e⟩
    · exact ih v z
theorem flt_cls {n : Nat} {v : Value} (h : Flt v) : ofAClassStatement n v = pure false := by
  rcases h with ⟨i, t, rfl⟩ | ⟨x, t, rfl⟩ <;> cases n <;> rfl
theorem flt_val {n : Nat} {v : Value} (h : Flt v) : ∃ b, hashByValue n v = pure b := by
  rcases h with ⟨i, t, rfl⟩ | ⟨x, t, rfl⟩ <;> cases n <;> exact ⟨_, rfl⟩
/-- a loop over the items that only looks -/
theorem look {β : Type} {f : Value → Option Bool × β → Sem (ForInStep (Option Bool × β))} {vs : Array Value} {r0 : Option Bool × β} {Q : Option Bool × β → Shared → Prop} (h0 : r0.1 = none)
    (hf : ∀ v ∈ vs.toList, ∀ r : Option Bool × β, r.1 = none → ∀ Q' : ForInStep (Option Bool × β) → Shared → Prop, (∀ r', r'.1 = none → Q' (.yield r') s) → wpAny (model P w) A (f v r) Q' E s)
    (hQ : ∀ r, r.1 = none → Q r s) : wpAny (model P w) A (forIn vs r0 f) Q E s := by
  rw [← Array.forIn_toList]
  refine wpAny_forIn_list _ (fun rest r s' => r.1 = none ∧ s' = s ∧ ∀ v ∈ rest, v ∈ vs.toList) _ ?_ ?_ _ _ ⟨h0, rfl, fun v h => h⟩
  · rintro v rest r s' ⟨hr, rfl, hall⟩
    exact hf v (hall v List.mem_cons_self) r hr _ fun r' hr' => ⟨hr', rfl, fun u z => hall u (List.mem_cons_of_mem _ z)⟩
  · rintro r s' ⟨hr, rfl, _⟩
    exact hQ r hr
theorem k_cls {k : Ky} {b : Addr} {Q : Bool → Shared → Prop} (x : IsK P w s.heap k b) (q : Q false s) : wpAny (model P w) A (ofAClassStatement 8 (.ref b)) Q E s := by
  have ty := x.typeIs
  obtain ⟨o, its, n, g, _, dt, all⟩ := x
  have fl := flt_of all
  unfold ofAClassStatement
  refine wpAny_bind (wpAny_typeOf ty ?_)
  dsimp only
  simp only [show (("tuple" : String) == "tuple") = true from by decide, if_true, Bool.not_true, Bool.false_eq_true, if_false]
  try refine wpAny_bind (wpAny_pure ?_)
  try simp only [Bool.not_true, Bool.false_eq_true, if_false]
  show wpAny _ _ (seqItems? (.ref b) >>= _) _ _ s
  refine wpAny_bind (wpAny_seqItems g dt ?_)
  dsimp only
  refine wpAny_bind ?_
  refine look rfl (fun v hv r hr Q' hq => ?_) fun r hr => ?_
  · rw [flt_cls (fl v hv)]
    refine wpAny_bind (wpAny_pure ?_)
    simp only [Bool.false_eq_true, if_false]
    exact wpAny_pure (hq _ rfl)
  · obtain ⟨r1, r2⟩ := r
    obtain rfl : r1 = none := hr
    exact wpAny_pure q
theorem k_val {k : Ky} {b : Addr} {Q : Bool → Shared → Prop} (x : IsK P w s.heap k b) (q : ∀ c, Q c s) : wpAny (model P w) A (hashByValue 8 (.ref b)) Q E s := by
  have ty := x.typeIs
  obtain ⟨o, its, n, g, _, dt, all⟩ := x
  have fl := flt_of all
  unfold hashByValue
  refine wpAny_bind (wpAny_specialOf ty F.slot_tuple_hash.lookup ?_)
  show wpAny _ _ (seqItems? (.ref b) >>= _) _ _ s
  refine wpAny_bind (wpAny_seqItems g dt ?_)
  refine wpAny_bind ?_
  show wpAny _ _ (forIn its _ _) _ _ s
  rw [← Array.forIn_toList]
  refine wpAny_forIn_list _ (fun rest _ s' => s' = s ∧ ∀ v ∈ rest, Flt v) _ ?_ ?_ _ _ ⟨rfl, fl⟩
  · rintro v rest r s' ⟨rfl, hall⟩
    obtain ⟨c, e⟩ := flt_val (n := 7) (hall v List.mem_cons_self)
    rw [e]
    refine wpAny_bind (wpAny_pure ?_)
    cases c
    · simp only [Bool.not_false, if_true]
      exact wpAny_pure (wpAny_pure (q _))
    · simp only [Bool.not_true, Bool.false_eq_true, if_false]
      exact wpAny_pure ⟨rfl, fun u z => hall u (List.mem_cons_of_mem _ z)⟩
  · rintro ⟨r1, r2⟩ s' ⟨rfl, _⟩
    cases r1 with
    | none => exact wpAny_pure (q _)
    | some c => exact wpAny_pure (q _)
theorem k_quiet {k : Ky} {b : Addr} {Q : Bool → Shared → Prop} (x : IsK P w s.heap k b) {ys : List Value} (hy : ∀ y ∈ ys, ∃ k' c, y = Value.ref c ∧ IsK P w s.heap k' c) (q : Q false s) :
    wpAny (model P w) A (searchCouldBeSeen (.ref b) ys) Q E s := by
  unfold searchCouldBeSeen
  refine wpAny_bind ?_
  refine wpAny_forIn_list _ (fun rest r s' => r.1 = none ∧ s' = s ∧ ∀ y ∈ rest, y ∈ ys) _ ?_ ?_ _ _ ⟨rfl, rfl, fun _ h => h⟩
  · rintro v rest r s' ⟨hr, rfl, hall⟩
    obtain ⟨k', c, rfl, hc⟩ := hy v (hall v List.mem_cons_self)
    have nxt : ∀ y ∈ rest, y ∈ ys := fun u z => hall u (List.mem_cons_of_mem _ z)
    dsimp only
    by_cases e : (b == c || (carriedByValue (.ref b) && carriedByValue (.ref c))) = true
    · exact wp_if_pos e (wpAny_pure ⟨rfl, rfl, nxt⟩)
    · refine wp_if_neg e (wpAny_bind (wpAny_eqIsQuiet_tuple x ?_))
      simp only [Bool.not_true, Bool.false_eq_true, if_false]
      refine wpAny_bind (wpAny_eqIsQuiet_tuple hc ?_)
      simp only [Bool.not_true, Bool.false_eq_true, if_false]
      refine wpAny_bind (k_cls x ?_)
      simp only [Bool.false_eq_true, if_false]
      refine wpAny_bind (k_cls hc ?_)
      simp only [Bool.false_eq_true, if_false]
      exact wpAny_pure ⟨rfl, rfl, nxt⟩
  · rintro ⟨r1, r2⟩ s' ⟨hr, rfl, _⟩
    obtain rfl : r1 = none := hr
    exact wpAny_pure q
theorem k_keep {h h' : Heap} {k : Ky} {b : Addr} (x : IsK P w h k b) (m : ∀ c o, h.get? c = some o → h'.get? c = some o) : IsK P w h' k b := by
  obtain ⟨o, its, n, g, r⟩ := x
  exact ⟨o, its, n, m b o g, r⟩
theorem k_beside {h h' : Heap} {k : Ky} {a b : Addr} {o : Obj} {es : Array (Int × Value)} {ep : Nat} {t : SetTable} (x : IsK P w h k b) (g : h.get? a = some o) (dt : o.data = .set es ep t) (m : Heap.SameBut a h h') : IsK P w h' k b := by
  obtain ⟨u, its, n, gu, c, du, r⟩ := x
  have ne : b ≠ a := fun z => by
    subst z
    rw [gu] at g
    cases g
    rw [dt] at du
    cases du
  exact ⟨u, its, n, (m.2 b ne).trans gu, c, du, r⟩

/-! ### the set and its rows -/
abbrev Rw := List (Addr × Ky)
def ent (P : Program) (w : World) (p : Addr × Ky) : Int × Value := (hk P w p.2, .ref p.1)
structure TS (P : Program) (w : World) (h : Heap) (a : Addr) (L : Rw) (es : Array (Int × Value)) (ep : Nat) (t : SetTable) : Prop where
  ob : ∃ o, h.get? a = some o ∧ o.ExactSet ∧ o.data = .set es ep t
  rows : es.toList = L.map (ent P w)
  tab : TabOk t (L.map fun p => hk P w p.2)
  nd : (L.map (·.2)).Nodup
  ks : ∀ p ∈ L, IsK P w h p.2 p.1
  led : w.params.followText "set-order" = true ∨ t.led = true
  room : L.length * 5 < t.mask * 3
  few : L.length < 64
variable {a : Addr} {L : Rw} {es : Array (Int × Value)} {ep : Nat} {t : SetTable}
theorem es_len (h : es.toList = L.map (ent P w)) : es.size = L.length := by
  have := congrArg List.length h
  rwa [Array.length_toList, List.length_map] at this
theorem es_get (h : es.toList = L.map (ent P w)) {i : Nat} {p : Addr × Ky} (e : L[i]? = some p) : es[i]? = some (ent P w p) := by
  rw [← Array.getElem?_toList, h, List.getElem?_map, e]
  rfl
theorem fits_of (R : TS P w s.heap a L es ep t) : t.fits es.size = true := by
  have z := R.tab.sz
  rw [List.length_map] at z
  have e := es_len R.rows
  have r := R.room
  unfold SetTable.fits SetTable.fill
  rw [R.tab.dm, Bool.and_eq_true, beq_iff_eq, decide_eq_true_eq]
  refine ⟨by omega, ?_⟩
  show t.place.size + 0 ≤ t.mask
  omega
theorem odd_of (R : TS P w s.heap a L es ep t) : ¬ t.gaveWay = true := by
  unfold SetTable.gaveWay
  rw [mask_odd R.tab.mok]
  decide
/-- the probe behind c steps, and its slot -/
abbrev pr (t : SetTable) (h : Int) (c : Nat) : SetTable.Probe := nth t.mask (runAt t.mask (SetTable.bits h % (t.mask + 1)) (SetTable.bits h)) c
theorem pr_add {h : Int} (c q : Nat) : nth t.mask (pr t h c) q = pr t h (c + q) := (nth_add t.mask c _ q).symm
theorem pr_j {h : Int} (c q : Nat) : (nth t.mask (pr t h c) q).j = way t.mask h (c + q) := congrArg SetTable.Probe.j (pr_add c q)
theorem pr_dummy {h : Int} (c : Nat) : (pr t h c).dummy = none := by
  have key : ∀ (n : Nat) (p : SetTable.Probe), p.dummy = none → (nth t.mask p n).dummy = none := by
    intro n
    induction n with
    | zero => exact fun p z => z
    | succ n ih =>
      intro p z
      refine ih (adv t.mask p) ?_
      unfold adv
      split <;> exact z
  exact key c _ rfl
/-- the search, from the c-th step on: K is the first empty slot on its way -/
theorem seek (R : TS P w s.heap a L es ep t) {x : Addr} {k : Ky} (kx : IsK P w s.heap k x) (hu : A.units < cLine) {K : Nat} (lt : K < 10 * SetTable.turns t.mask)
    (free : way t.mask (hk P w k) K ∉ t.place.toList) (full : ∀ c, c < K → way t.mask (hk P w k) c ∈ t.place.toList) {Q : SetFound → Shared → Prop}
    (qi : k ∈ L.map (·.2) → Q (.there none) s) (qo : k ∉ L.map (·.2) → Q (.free (way t.mask (hk P w k) K) false) s) :
    ∀ (f c : Nat) (st : Option SetTable.Probe), st.getD (t.probeStart (hk P w k)) = pr t (hk P w k) c → c ≤ K → K - c < f →
      (∀ (i : Nat) p, L[i]? = some p → p.2 = k → ∃ c', c ≤ c' ∧ c' < K ∧ t.place.toList[i]? = some (way t.mask (hk P w k) c')) →
      wpAny (model P w) A (setSearchFrom a (.ref x) (hk P w k) true f st) Q E s := by
  intro f
  induction f with
  | zero => exact fun c st _ _ z _ => absurd z (Nat.not_lt_zero _)
  | succ f ih =>
    intro c st hst hc hf left
    obtain ⟨o, g, ex, dt⟩ := R.ob
    have fit := fits_of R
    rw [setSearchFrom_succ]
    refine wpAny_bind (wpAny_setState_of g dt fit ?_)
    dsimp only
    refine wp_if_neg (odd_of R) ?_
    try refine wpAny_bind (wpAny_pure ?_)
    have toK : c + (K - c) = K := by omega
    have sp := go_spec t R.tab.ris R.tab.dm (fun i => (es[i]?.map (·.1)).getD 0) (hk P w k) (10 * SetTable.turns t.mask) (K - c) _ (pr_dummy (h := hk P w k) c) (by omega)
      (fun q hq => by rw [pr_j]; exact full _ (by omega)) (by rw [pr_j, toK]; exact free)
    have hat : ∀ (i : Nat) p, L[i]? = some p → (fun i => (es[i]?.map (·.1)).getD 0) i = hk P w p.2 := fun i p e => by
      show (es[i]?.map (·.1)).getD 0 = _
      rw [es_get R.rows e]
      rfl
    rcases sp with ⟨q, i, hq, at_i, _, none_yet, met⟩ | ⟨none_yet, met⟩
    · rw [pr_j] at at_i
      have met' : t.probe (fun i => (es[i]?.map (·.1)).getD 0) (hk P w k) (st.getD (t.probeStart (hk P w k))) = some (.candidate (way t.mask (hk P w k) (c + q)) i (pr t (hk P w k) (c + (q + 1)))) := by
        rw [hst, ← pr_j, ← pr_add]
        exact met
      rw [met']
      dsimp only
      have il : i < L.length := by
        have z := (List.getElem?_eq_some_iff.mp at_i).1
        have z2 := R.tab.sz
        rw [List.length_map] at z2
        rw [Array.length_toList] at z
        omega
      obtain ⟨p, ep_⟩ : ∃ p, L[i]? = some p := ⟨_, List.getElem?_eq_getElem il⟩
      have pin : p ∈ L := List.mem_of_getElem? ep_
      have kp := R.ks p pin
      have live : t.slot (way t.mask (hk P w k) (c + q)) = .live i := slot_live R.tab.ris at_i
      have body : wpAny (model P w) A (searchRest a (.ref x) (hk P w k) true f es t (way t.mask (hk P w k) (c + q)) i (pr t (hk P w k) (c + (q + 1)))) Q E s := by
        unfold searchRest
        rw [es_get R.rows ep_]
        dsimp only [ent]
        refine wpAny_bind (wpAny_holding (wpAny_eqBool_tuple hu kp kx ?_))
        refine wpAny_bind (wpAny_setState_of g dt fit ?_)
        dsimp only
        by_cases same : p.2 = k
        · exact wp_if_pos (by simp [same]) (wpAny_pure (qi (List.mem_map.mpr ⟨p, pin, same⟩)))
        · refine wp_if_neg (by simp [same]) ?_
          try refine wpAny_bind (wpAny_pure ?_)
          rw [sameMem]
          dsimp only
          simp only [if_true, live, es_get R.rows ep_, ent]
          refine wpAny_bind (wpAny_isSame_ref_self (wpAny_bind (wpAny_pure ?_)))
          simp only [if_true]
          refine wp_if_neg (by simp [same]) ?_
          refine ih (c + (q + 1)) _ rfl (by omega) (by omega) fun j r e1 e2 => ?_
          obtain ⟨c', l1, l2, l3⟩ := left j r e1 e2
          refine ⟨c', ?_, l2, l3⟩
          rcases Nat.lt_trichotomy c' (c + q) with z | z | z
          · refine (none_yet (c' - c) j (by omega) (by rw [pr_j, show c + (c' - c) = c' by omega]; exact l3) ?_).elim
            exact (hat j r e1).trans (congrArg _ e2)
          · rw [z] at l3
            have := slot_live R.tab.ris l3
            rw [live] at this
            injection this with this
            rw [← this, ep_] at e1
            exact (same ((congrArg Prod.snd (Option.some.inj e1)).trans e2)).elim
          · omega
      by_cases led : t.led = true
      · refine wp_if_neg (by simp [led]) ?_
        try refine wpAny_bind (wpAny_pure ?_)
        exact body
      · refine wp_if_pos (by simp [led]) ?_
        refine wpAny_bind (k_quiet kx (fun y hy => ?_) ?_)
        · obtain ⟨e, he, rfl⟩ := List.mem_map.mp hy
          have h1 : e ∈ es ∧ e.1 = hk P w k := by simpa using he
          have h2 : e ∈ es.toList := by simpa using h1.1
          rw [R.rows] at h2
          obtain ⟨r, hr, rfl⟩ := List.mem_map.mp h2
          exact ⟨r.2, r.1, rfl, R.ks r hr⟩
        · refine wp_if_neg (by decide) ?_
          try refine wpAny_bind (wpAny_pure ?_)
          exact body
    · have met' : t.probe (fun i => (es[i]?.map (·.1)).getD 0) (hk P w k) (st.getD (t.probeStart (hk P w k))) = some (.empty (way t.mask (hk P w k) K) none) := by
        rw [pr_j, toK] at met
        rw [hst]
        exact met
      rw [met']
      dsimp only
      refine wpAny_pure (qo fun hm => ?_)
      obtain ⟨r, hr, e2⟩ := List.mem_map.mp hm
      obtain ⟨j, lj, ej⟩ := List.getElem_of_mem hr
      have e1 : L[j]? = some r := by rw [List.getElem?_eq_getElem lj, ej]
      obtain ⟨c', l1, l2, l3⟩ := left j r e1 e2
      refine none_yet (c' - c) j (by omega) (by rw [pr_j, show c + (c' - c) = c' by omega]; exact l3) ?_
      exact (hat j r e1).trans (congrArg _ e2)
theorem seek0 (R : TS P w s.heap a L es ep t) {x : Addr} {k : Ky} (kx : IsK P w s.heap k x) (hu : A.units < cLine) {Q : SetFound → Shared → Prop} (qi : k ∈ L.map (·.2) → Q (.there none) s)
    (qo : ∀ K, k ∉ L.map (·.2) → way t.mask (hk P w k) K ∉ t.place.toList → (∀ c, c < K → way t.mask (hk P w k) c ∈ t.place.toList) → Q (.free (way t.mask (hk P w k) K) false) s) :
    wpAny (model P w) A (setSearch a (.ref x) (hk P w k) true) Q E s := by
  have room := R.room
  obtain ⟨K, lt, free, full⟩ := R.tab.first (by rw [List.length_map]; omega) (hk P w k)
  have small : K < 100000 := by
    have : 10 * SetTable.turns t.mask ≤ 1420 := by
      unfold SetTable.turns
      rcases R.tab.mok with e | e | e <;> omega
    omega
  unfold setSearch
  refine seek R kx hu lt free full qi (fun n => qo K n free full) 100000 0 none rfl (Nat.zero_le _) (by omega) fun i p e1 e2 => ?_
  have hi : (L.map fun p => hk P w p.2)[i]? = some (hk P w k) := by
    rw [List.getElem?_map, e1, ← e2]
    rfl
  have il : i < t.place.toList.length := by
    have z := (List.getElem?_eq_some_iff.mp e1).1
    have z2 := R.tab.sz
    rw [List.length_map] at z2
    rw [Array.length_toList]
    omega
  have ej := List.getElem?_eq_getElem il
  obtain ⟨c, lc, e⟩ := R.tab.before free hi ej
  exact ⟨c, Nat.zero_le _, lc, by rw [ej, e]⟩
end
end Ms
set_option maxHeartbeats 400000
namespace Ms
open PySem PySem.Spec PyProof.Rows L2
section
variable {P : Program} {w : World} {A : Around} {E : Value → Shared → Prop} {s : Shared}
variable {a : Addr} {L : Rw} {es : Array (Int × Value)} {ep : Nat} {t : SetTable}
theorem fm_range {α : Type} : ∀ (l : List α), (List.range l.length).filterMap (fun i => l[i]?) = l := fun l => List.filterMap_getElem?_range_length l
/-- the rows in another order -/
theorem reorder (h : es.toList = L.map (ent P w)) {ord : List Nat} (hp : ord.Perm (List.range L.length)) :
    ∃ M : Rw, ord.filterMap (fun i => es[i]?) = M.map (ent P w) ∧ M.Perm L ∧ M.map (fun p => hk P w p.2) = ord.map fun i => (es.map (·.1)).getD i 0 := by
  refine ⟨ord.filterMap fun i => L[i]?, ?_, ?_, ?_⟩
  · rw [List.map_filterMap]
    congr 1
    funext i
    rw [← Array.getElem?_toList, h, List.getElem?_map]
  · have := hp.filterMap fun i => L[i]?
    rwa [fm_range] at this
  · have all : ∀ i ∈ ord, i < L.length := fun i hi => List.mem_range.mp (hp.mem_iff.mp hi)
    clear hp
    induction ord with
    | nil => rfl
    | cons i r ih =>
      have il := all i List.mem_cons_self
      have e1 : L[i]? = some L[i] := List.getElem?_eq_getElem il
      have e2 : (es.map (·.1)).getD i 0 = hk P w (L[i]).2 := by
        have : (es.map (·.1))[i]? = some (hk P w (L[i]).2) := by
          rw [Array.getElem?_map, es_get h e1]
          rfl
        rw [Array.getD_eq_getD_getElem?, this]
        rfl
      rw [List.filterMap_cons_some e1, List.map_cons, List.map_cons, ih fun j hj => all j (List.mem_cons_of_mem _ hj), e2]
theorem tabOk_plain {t : SetTable} {hs : List Int} {b : Bool} (T : TabOk t hs) : TabOk { t with plain := b } hs := ⟨T.ris, T.dm, T.sz, T.mok, T.bd, T.reach⟩
/-- laid anew, larger -/
theorem relay {o : Obj} (g : s.heap.get? a = some o) (ex : o.ExactSet) (dt : o.data = .set es ep t) (rows : es.toList = L.map (ent P w)) (sz : t.place.size = es.size) (dm : t.dummies = #[]) (fl : es.size ≤ t.mask)
    (nd : (L.map (·.2)).Nodup) (ks : ∀ p ∈ L, IsK P w s.heap p.2 p.1) (led : w.params.followText "set-order" = true ∨ t.led = true) (few : L.length < 64) {wanted M : Nat}
    (hw : SetTable.sizeAbove wanted - 1 = M) (hM : MaskOk M) (h128 : SetTable.sizeAbove wanted ≤ 128) (room : L.length * 5 < M * 3) {Q : Unit → Shared → Prop}
    (q : ∀ h' L' es' ep' t', Heap.SameBut a s.heap h' → TS P w h' a L' es' ep' t' → L'.Perm L → Q () { s with heap := h' }) : wpAny (model P w) A (setRelay a wanted) Q E s := by
  have n := es_len rows
  have fit : t.fits es.size = true := by
    unfold SetTable.fits SetTable.fill
    rw [dm, Bool.and_eq_true, beq_iff_eq, decide_eq_true_eq]
    exact ⟨sz, by show t.place.size + 0 ≤ t.mask; omega⟩
  obtain ⟨u, ord, e, pm, T, em, el, _, _⟩ := relaid_ok t (hs := es.map (·.1)) (wanted := wanted) hw hM (by rw [Array.size_map, n]; omega)
  rw [Array.size_map, n] at pm
  obtain ⟨M2, r1, r2, r3⟩ := reorder rows pm
  rw [← r3] at T
  have rl : (ord.filterMap (es[·]?)).toList = M2.map (ent P w) := by
    first
      | (rw [Array.toList_filterMap]; exact r1)
      | simpa using r1
  have n2 : (ord.filterMap (es[·]?)).size = es.size := by rw [es_len rl, r2.length_eq, n]
  rw [setRelay_eq]
  refine wpAny_bind (wpAny_setState_of g dt fit ?_)
  dsimp only
  refine wp_if_neg (by rw [sizeLine_eq]; omega) ?_
  try refine wpAny_bind (wpAny_pure ?_)
  rw [e]
  dsimp only
  refine wpAny_bind (wp_if_neg (by rw [n2]; simp) ?_)
  try refine wpAny_bind (wpAny_pure ?_)
  refine wpAny_pure ?_
  dsimp only
  refine wpAny_storeSet_of g dt ?_ (by rw [n2, n, sizeLine_eq]; omega)
  have mv : Heap.SameBut a s.heap (s.heap.update a (Obj.putSet (ord.filterMap (es[·]?)) u)) := Heap.SameBut.update ..
  exact q _ M2 _ (ep + 1) u mv ⟨⟨_, store_at g dt, ⟨ex.1, ex.2.1, ex.2.2⟩, rfl⟩, rl, T, (r2.map _).nodup_iff.mpr nd, fun p hp => k_beside (ks p (r2.mem_iff.mp hp)) g dt mv, by rw [el]; exact led, by rw [r2.length_eq, em]; exact room, by rw [r2.length_eq]; exact few⟩ r2
/-- one more -/
theorem put1 (R : TS P w s.heap a L es ep t) {x : Addr} {k : Ky} (kx : IsK P w s.heap k x) (hu : A.units < cLine) (few : L.length + 1 < 64) {Q : Bool → Shared → Prop}
    (q : ∀ b h' L' es' ep' t', Heap.SameBut a s.heap h' → TS P w h' a L' es' ep' t' → (k ∈ L.map (·.2) → L' = L) → (k ∉ L.map (·.2) → L'.Perm ((x, k) :: L)) → Q b { s with heap := h' }) :
    wpAny (model P w) A (setAddHashed a (.ref x) (hk P w k)) Q E s := by
  obtain ⟨o, g, ex, dt⟩ := R.ob
  have n := es_len R.rows
  have fit := fits_of R
  unfold setAddHashed
  refine wpAny_holding ?_
  rw [show (100000 : Nat) = 99999 + 1 from rfl, setAddHashedIn_succ]
  refine wpAny_bind (wpAny_setState_of g dt fit ?_)
  dsimp only
  refine wp_if_neg (by simp [byScan, Value.scannable]) ?_
  try refine wpAny_bind (wpAny_pure ?_)
  refine wpAny_bind (seek0 R kx hu (fun hm => ?_) fun K hm free full => ?_)
  · exact wpAny_pure (q false s.heap L es ep t (Heap.SameBut.refl a s.heap) R (fun _ => rfl) fun z => absurd hm z)
  dsimp only
  refine wpAny_bind (wpAny_setState_of g dt fit ?_)
  dsimp only
  obtain ⟨q1, q2, q3, q4, q5, q6, q7, q8, q9⟩ := R.tab.put free full
  have rows1 : (SetTable.insertAt es (SetTable.below t.place (way t.mask (hk P w k) K)) (hk P w k, Value.ref x)).toList = (L.take (SetTable.below t.place (way t.mask (hk P w k) K)) ++ (x, k) :: L.drop (SetTable.below t.place (way t.mask (hk P w k) K))).map (ent P w) := by
    rw [SetTable.toList_insertAt, List.map_append, List.map_cons, List.map_take, List.map_drop, R.rows]
    rfl
  have hs1 : (L.map fun p => hk P w p.2).take (SetTable.below t.place (way t.mask (hk P w k) K)) ++ hk P w k :: (L.map fun p => hk P w p.2).drop (SetTable.below t.place (way t.mask (hk P w k) K)) = (L.take (SetTable.below t.place (way t.mask (hk P w k) K)) ++ (x, k) :: L.drop (SetTable.below t.place (way t.mask (hk P w k) K))).map fun p => hk P w p.2 := by
    rw [List.map_append, List.map_cons, List.map_take, List.map_drop]
  rw [hs1] at q3
  have pm1 := put_perm L (SetTable.below t.place (way t.mask (hk P w k) K)) (x, k)
  generalize L.take (SetTable.below t.place (way t.mask (hk P w k) K)) ++ (x, k) :: L.drop (SetTable.below t.place (way t.mask (hk P w k) K)) = L1 at rows1 q3 pm1
  rw [← q1] at rows1
  generalize hpt : t.put (way t.mask (hk P w k) K) = pt at q1 q3 q4 q5 q9 rows1 ⊢
  obtain ⟨t1, j⟩ := pt
  dsimp only at q1 q3 q4 q5 q9 rows1 ⊢
  have n1 := es_len rows1
  have len1 : L1.length = L.length + 1 := pm1.length_eq
  generalize SetTable.insertAt es j (hk P w k, Value.ref x) = es1 at rows1 n1 ⊢
  have nd1 : (L1.map (·.2)).Nodup := by
    refine (pm1.map (·.2)).nodup_iff.mpr ?_
    rw [List.map_cons]
    exact List.nodup_cons.mpr ⟨hm, R.nd⟩
  -- what is left, whether the hash goes by value or not
  have rest : ∀ t2 : SetTable, TabOk t2 (L1.map fun p => hk P w p.2) → t2.mask = t.mask → t2.led = t.led → t2.fill = (L.map fun p => hk P w p.2).length + 1 →
      wpAny (model P w) A (do
        storeSet a es1 t2
        if !false && t2.tooFull then setRelay a (SetTable.grown (es.size + 1))
        return true) Q E s := by
    intro t2 T em el ef
    refine wpAny_bind (wpAny_storeSet_of g dt ?_ (by rw [n1, len1, sizeLine_eq]; omega))
    have mv : Heap.SameBut a s.heap (s.heap.update a (Obj.putSet es1 t2)) := Heap.SameBut.update ..
    have g1 := store_at (es' := es1) (t' := t2) g dt
    generalize s.heap.update a (Obj.putSet es1 t2) = h1 at mv g1 ⊢
    have ks1 : ∀ p ∈ L1, IsK P w h1 p.2 p.1 := fun p hp => by
      rcases List.mem_cons.mp (pm1.mem_iff.mp hp) with rfl | z
      · exact k_beside kx g dt mv
      · exact k_beside (R.ks p z) g dt mv
    have led1 : w.params.followText "set-order" = true ∨ t2.led = true := by rw [el]; exact R.led
    have room := R.room
    rw [List.length_map] at ef
    by_cases full' : t2.tooFull = true
    · have big : (L.length + 1) * 5 ≥ t2.mask * 3 := by
        have z := full'
        unfold SetTable.tooFull at z
        rw [decide_eq_true_eq, ef] at z
        exact z
      have two : (t.mask = 7 ∧ L.length = 4) ∨ (t.mask = 31 ∧ L.length = 18) := by
        rcases R.tab.mok with e | e | e <;> rw [em, e] at big <;> rw [e] at room
        · exact .inl ⟨e, by omega⟩
        · exact .inr ⟨e, by omega⟩
        · omega
      have go : ∀ M, SetTable.sizeAbove (SetTable.grown (L.length + 1)) - 1 = M → MaskOk M → SetTable.sizeAbove (SetTable.grown (L.length + 1)) ≤ 128 → (L.length + 1) * 5 < M * 3 →
          wpAny (model P w) A (setRelay a (SetTable.grown (L.length + 1))) (fun _ s' => wpAny (model P w) A (pure true) Q E s') E { s with heap := h1 } := fun M z1 z2 z3 z4 => by
        refine relay (s := { s with heap := h1 }) g1 ⟨ex.1, ex.2.1, ex.2.2⟩ rfl rows1 (by rw [T.sz, List.length_map, n1]) T.dm (by rw [n1, len1, em]; rcases two with ⟨e, e2⟩ | ⟨e, e2⟩ <;> omega) nd1 ks1 led1 (by omega) z1 z2 z3 (by rw [len1]; exact z4) ?_
        intro h2 L2 es2 ep2 t3 mv2 R2 pm2
        exact wpAny_pure (q true h2 L2 es2 ep2 t3 (mv.trans mv2) R2 (fun z => absurd z hm) fun _ => pm2.trans pm1)
      rw [n]
      have run : wpAny (model P w) A (setRelay a (SetTable.grown (L.length + 1))) (fun _ s' => wpAny (model P w) A (pure true) Q E s') E { s with heap := h1 } := by
        rcases two with ⟨_, e2⟩ | ⟨_, e2⟩
        · exact go 31 (by rw [e2, size_20]) (.inr (.inl rfl)) (by rw [e2, size_20]; decide) (by omega)
        · exact go 127 (by rw [e2, size_76]) (.inr (.inr rfl)) (by rw [e2, size_76]; decide) (by omega)
      first
        | exact wp_if_pos (by simp [full']) (wpAny_bind run)
        | exact wpAny_bind (wp_if_pos (by simp [full']) run)
    · have done : Q true { s with heap := h1 } := by
        refine q true h1 L1 es1 (ep + 1) t2 mv ⟨⟨_, g1, ⟨ex.1, ex.2.1, ex.2.2⟩, rfl⟩, rows1, T, nd1, ks1, led1, ?_, by omega⟩ (fun z => absurd z hm) fun _ => pm1
        have z := full'
        unfold SetTable.tooFull at z
        rw [decide_eq_true_eq, ef] at z
        rw [len1]
        omega
      first
        | exact wp_if_neg (by simp [full']) (wpAny_pure done)
        | exact wpAny_bind (wp_if_neg (by simp [full']) (wpAny_pure (wpAny_pure done)))
  by_cases pl : t1.plain = true
  · first
      | refine wpAny_bind (wp_if_pos pl (k_val kx fun c => ?_))
      | refine wp_if_pos pl (wpAny_bind (k_val kx fun c => ?_))
    cases c
    · exact rest { t1 with plain := false } (tabOk_plain q3) q4 q5 q9
    · exact rest t1 q3 q4 q5 q9
  · first
      | refine wpAny_bind (wp_if_neg pl (wpAny_pure ?_))
      | refine wp_if_neg pl ?_
    exact rest t1 q3 q4 q5 q9
end
end Ms
set_option maxHeartbeats 400000
namespace Ms
open PySem PySem.Spec PyProof.Rows L2
/-- what the first i items have brought -/
structure Has (ks : Rw) (i : Nat) (L : Rw) : Prop where
  sub : ∀ p ∈ L, p ∈ ks.take i
  all : ∀ p ∈ ks.take i, p.2 ∈ L.map (·.2)
  len : L.length ≤ i
theorem Has.next {ks L L' : Rw} {i : Nat} {x : Addr × Ky} (g : Has ks i L) (e : ks[i]? = some x) (h1 : x.2 ∈ L.map (·.2) → L' = L) (h2 : x.2 ∉ L.map (·.2) → L'.Perm (x :: L)) : Has ks (i + 1) L' := by
  have tk : ks.take (i + 1) = ks.take i ++ [x] := by rw [List.take_add_one, e]; rfl
  by_cases c : x.2 ∈ L.map (·.2)
  · rw [h1 c]
    refine ⟨fun p hp => by rw [tk]; exact List.mem_append_left _ (g.sub p hp), fun p hp => ?_, Nat.le_succ_of_le g.len⟩
    rw [tk] at hp
    rcases List.mem_append.mp hp with z | z
    · exact g.all p z
    · rw [List.mem_singleton.mp z]; exact c
  · have pm := h2 c
    refine ⟨fun p hp => ?_, fun p hp => ?_, by rw [pm.length_eq]; exact Nat.succ_le_succ g.len⟩
    · rw [tk]
      rcases List.mem_cons.mp (pm.mem_iff.mp hp) with rfl | z
      · exact List.mem_append_right _ List.mem_cons_self
      · exact List.mem_append_left _ (g.sub p z)
    · rw [(pm.map (·.2)).mem_iff, List.map_cons]
      rw [tk] at hp
      rcases List.mem_append.mp hp with z | z
      · exact List.mem_cons_of_mem _ (g.all p z)
      · rw [List.mem_singleton.mp z]; exact List.mem_cons_self
theorem has0 (ks : Rw) : Has ks 0 [] := ⟨fun p hp => (nomatch hp), fun p hp => (by rw [List.take_zero] at hp; cases hp), Nat.le_refl _⟩
section
variable {P : Program} {w : World} {A : Around} {E : Value → Shared → Prop} {s : Shared}
theorem TS.keep {h h' : Heap} {a : Addr} {L : Rw} {es : Array (Int × Value)} {ep : Nat} {t : SetTable} (R : TS P w h a L es ep t) (m : ∀ o, h.get? a = some o → h'.get? a = some o) (ks : ∀ p ∈ L, IsK P w h' p.2 p.1) : TS P w h' a L es ep t := by
  obtain ⟨o, g, r⟩ := R.ob
  exact ⟨⟨o, m o g, r⟩, R.rows, R.tab, R.nd, ks, R.led, R.room, R.few⟩
abbrev newSet (w : World) : Obj := { cls := .type "set", dict := none, data := .set #[] 0 (.fresh 0 0 (!w.params.followText "set-order")) }
theorem ts_new {h : Heap} {a : Addr} (g : h.get? a = some (newSet w)) : TS P w h a [] #[] 0 (.fresh 0 0 (!w.params.followText "set-order")) where
  ob := ⟨_, g, ⟨rfl, rfl, rfl⟩, rfl⟩
  rows := rfl
  tab := ⟨List.Pairwise.nil, rfl, rfl, .inl rfl, fun x z => (nomatch z), fun i _ _ z => by simp at z⟩
  nd := List.nodup_nil
  ks := fun _ z => nomatch z
  led := by
    show _ ∨ (!w.params.followText "set-order") = true
    cases w.params.followText "set-order" <;> simp
  room := by show 0 * 5 < 7 * 3; decide
  few := by show 0 < 64; decide
/-- set.update, item by item -/
theorem fill {I : Addr} {fp wr : List Addr} {G : Array GenState → Array GenState → Prop} {n : Nat} {Pv : Nat → Value → Prop} {St : Nat → Shared → Prop} {R : Result → Shared → Prop}
    (W : WalksS P w A.in1 I fp wr G n Pv St) (S : Addr) (Sf : S ∉ fp) (ks : Rw) (hn : n = ks.length) (few : ks.length < 64) (val : ∀ i v, Pv i v → ∃ p, ks[i]? = some p ∧ v = .ref p.1)
    (h0 : Heap) (kk : ∀ p ∈ ks, IsK P w h0 p.2 p.1) (S0 : h0.get? S = none) (w0 : ∀ b ∈ wr, h0.get? b = none) (hu : A.in1.units < cLine) :
    ∀ (k i : Nat) (s : Shared), n - i = k → i ≤ n → St i s → (∀ b o, h0.get? b = some o → s.heap.get? b = some o) → (∃ L es ep t, TS P w s.heap S L es ep t ∧ Has ks i L) →
      (∀ s' L es ep t, Moved (S :: wr) G s s' → TS P w s'.heap S L es ep t → Has ks n L → (∀ b o, h0.get? b = some o → s'.heap.get? b = some o) → R (.ok (.ret .none)) s') →
      codeAny (model P w) A (.builtin "set.update.loop" ⟨[.ref S, .ref I], []⟩) R s := by
  have Sw : S ∉ wr := fun z => Sf (W.sub _ z)
  have up : ∀ b ∈ wr, b ∈ S :: wr := fun b z => List.mem_cons_of_mem _ z
  have stays : ∀ {s s' : Shared}, Moved wr G s s' → (∀ b o, h0.get? b = some o → s.heap.get? b = some o) → ∀ b o, h0.get? b = some o → s'.heap.get? b = some o := fun m z b o e =>
    m.heap b o (fun hb => by rw [w0 b hb] at e; cases e) (z b o e)
  intro k
  induction k with
  | zero =>
    rintro i s hk hi st z ⟨L, es, ep, t, T, g⟩ hR
    obtain rfl : i = n := by omega
    refine codeAny_builtin F.entry_set_update_loop ?_
    rw [Around.under_plainId F.plain_set_update_loop _]
    show wpAny _ A.in1 (pyNext (.ref I) >>= _) _ _ s
    refine wpAny_bind (W.done s _ _ st fun s' m => ?_)
    have z' := stays m z
    exact wpAny_pure (hR s' L es ep t (m.mono up) (T.keep (fun o e => m.heap S o Sw e) fun p hp => k_keep (kk p (List.mem_of_mem_take (g.sub p hp))) z') g z')
  | succ k ih =>
    rintro i s hk hi st z ⟨L, es, ep, t, T, g⟩ hR
    have lt : i < n := by omega
    refine codeAny_builtin F.entry_set_update_loop ?_
    rw [Around.under_plainId F.plain_set_update_loop _]
    show wpAny _ A.in1 (pyNext (.ref I) >>= _) _ _ s
    refine wpAny_bind (W.item i s _ _ lt st fun v s1 hv st1 m => ?_)
    obtain ⟨p, ep_, rfl⟩ := val i v hv
    have z1 := stays m z
    have T1 : TS P w s1.heap S L es ep t := T.keep (fun o e => m.heap S o Sw e) fun r hr => k_keep (kk r (List.mem_of_mem_take (g.sub r hr))) z1
    have kp : IsK P w s1.heap p.2 p.1 := k_keep (kk p (List.mem_of_getElem? ep_)) z1
    show wpAny _ A.in1 (holding [Value.ref p.1] (setAdd S (.ref p.1)) >>= _) _ _ s1
    refine wpAny_bind (wpAny_holding ?_)
    unfold setAdd
    refine wpAny_holding (wpAny_bind (wpAny_pyHash_tuple hu kp ?_))
    refine put1 (s := { s1 with toks := s1.toks + (p.2.length + 1) }) T1 kp hu (by have := g.len; omega) fun b h' L' es' ep' t' mv T2 c1 c2 => ?_
    have z2 : ∀ b o, h0.get? b = some o → h'.get? b = some o := fun b o e => (mv.2 b (fun y => by rw [y, S0] at e; cases e)).trans (z1 b o e)
    refine wpAny_pure ⟨plainId_quiet F.plain_set_update_loop _, ih (i + 1) _ (by omega) lt (W.frame _ s1 _ _ st1 (Nat.le_add_right _ _) fun b hb o e => ?_) z2 ⟨L', es', ep', t', T2, g.next ep_ c1 c2⟩ fun s2 L2 es2 ep2 t2 m2 T3 g3 z3 => ?_⟩
    · rw [mv.2 b (fun y : b = S => Sf (y ▸ hb))]; exact e
    · refine hR s2 L2 es2 ep2 t2 (Moved.trans W.gtrans ((m.mono up).then_heap (Nat.le_add_right _ _) fun b o hb e => ?_) m2) T3 g3 z3
      rw [mv.2 b (fun y : b = S => hb (y ▸ List.mem_cons_self))]; exact e
set_option maxHeartbeats 3200000 in
/-- set(xs), xs a list -/
theorem set_of {l : Addr} {its : Array Value} (ks : Rw) {Q : Value → Shared → Prop} (hh : A.handled = none) (hl : s.heap.IsList l its) (hit : its.toList = ks.map fun p => Value.ref p.1)
    (kk : ∀ p ∈ ks, IsK P w s.heap p.2 p.1) (few : ks.length < 64) (hu : A.units + 3 < cLine)
    (q : ∀ (h' : Heap) (tk : Nat) L es ep t, TS P w h' s.heap.objs.size L es ep t → Has ks ks.length L → (∀ b o, s.heap.get? b = some o → h'.get? b = some o) → Q (.ref s.heap.objs.size) { s with heap := h', toks := tk }) :
    wpAny (model P w) A (call (.type "set") [.ref l]) Q E s := by
  have n : its.size = ks.length := by
    have := congrArg List.length hit
    rwa [Array.length_toList, List.length_map] at this
  obtain ⟨c, tl, hmro⟩ := F.called_set.mro
  have hmade := F.called_set.made
  have hsub := F.called_set.sub
  refine wpAny_call (codeAny_of_tree ?_)
  show wpAny _ _ (callAny (.type "set") _) _ _ _
  refine wpAny_pure ⟨Code.quiet_builtin _ (by decide +kernel), codeAny_builtin F.entry_type_call ?_⟩
  rw [Around.under_plain (weight_type_call_type "set" [.ref l] []) rfl]
  have h1 := F.called_set.notType
  have h2 := F.called_set.canCreate
  have hct := F.typeCall_set_1 (.ref l)
  repeat (any_goals (first | assumption | wp_step))
  refine codeAny_mono (code_set_led1 (.ref l) (E := E) (Q₁ := fun obj s₁ => obj = .ref s.heap.objs.size ∧ s₁ = { s with heap := s.heap.push (newSet w) }) ⟨rfl, rfl⟩) fun r s₁ hr => ?_
  cases r with
  | error e => exact hr
  | ok fl =>
    cases fl with
    | ret obj =>
      obtain ⟨rfl, rfl⟩ := hr
      have gS : (s.heap.push (newSet w)).get? s.heap.objs.size = some (newSet w) := Heap.get?_push_size _ rfl
      have hT : Shared.TypeIs { s with heap := s.heap.push (newSet w) } (.ref s.heap.objs.size) "set" := ⟨_, gS, rfl⟩
      have hli := F.called_set.init.lookup
      have hbi := F.called_set.init.bind (.ref s.heap.objs.size)
      repeat (any_goals (first | assumption | wp_step))
      refine codeAny_mono (codeAny_call_builtin (R := wants (fun r s₂ => r = .none ∧ ∃ h' tk L es ep t, s₂ = { s with heap := h', toks := tk } ∧ TS P w h' s.heap.objs.size L es ep t ∧ Has ks ks.length L ∧
          (∀ b o, s.heap.get? b = some o → h'.get? b = some o)) E) F.called_set.init.plain F.entry_set_init (check_set_init_1 hT ?_)) fun r₂ s₂ hr₂ => ?_
      · obtain ⟨ol, gl, cl, nl, dl⟩ := hl
        obtain ⟨ocls, odict, odata, oslots⟩ := ol
        simp only at cl dl
        subst cl; subst dl
        have gl' : (s.heap.push (newSet w)).get? l = some { cls := .type "list", dict := odict, data := .seq its nl, slots := oslots } := Heap.get?_push_of_some _ gl
        have y1 := F.sub_list_set
        have y2 := F.sub_list_frozenset
        have y3 : (Value.type "list" == Value.type "dict") = false := by decide
        have hl1 : (s.heap.push (newSet w)).IsList l its := ⟨_, gl', rfl, nl, rfl⟩
        unfold Builtin.«set.__init__» noKeywords Builtin.Frozenset.updateFrom
        generalize hPI : pyIter = PI
        wp_walk
        subst hPI
        refine wpAny_pyIter_list hl1 (wpAny_bind (wpAny_runValue ?_))
        have lS : l < s.heap.objs.size := Heap.lt_size gl
        have hh3 : A.in1.in1.in1.handled = none := by simp [hh]
        have neI : l ≠ (s.heap.push (newSet w)).objs.size := by rw [Heap.size_push]; exact Nat.ne_of_lt (Nat.lt_succ_of_lt lS)
        have Sf : s.heap.objs.size ∉ [(s.heap.push (newSet w)).objs.size, l] := by
          rw [Heap.size_push]
          simp only [List.mem_cons, List.not_mem_nil, or_false, not_or]
          exact ⟨Nat.ne_of_lt (Nat.lt_succ_self _), Nat.ne_of_gt lS⟩
        have val : ∀ (i : Nat) (v : Value), its[i]? = some v → ∃ p, ks[i]? = some p ∧ v = .ref p.1 := fun i v e => by
          rw [← Array.getElem?_toList, hit, List.getElem?_map] at e
          cases z : ks[i]? with
          | none => rw [z] at e; cases e
          | some p => rw [z] at e; exact ⟨p, rfl, (Option.some.inj e).symm⟩
        have none_at : ∀ b, s.heap.objs.size ≤ b → s.heap.get? b = none := fun b hb => by
          cases z : s.heap.get? b with
          | none => rfl
          | some o => exact absurd (Nat.lt_of_lt_of_le (Heap.lt_size z) hb) (Nat.lt_irrefl _)
        refine fill ((Walks.list hh3 _ l neI its).toS) s.heap.objs.size Sf ks n few val s.heap kk (none_at _ (Nat.le_refl _)) (fun b hb => none_at b (by
            rw [List.mem_singleton.mp hb, Heap.size_push]
            exact Nat.le_succ _)) hu (its.size - 0) 0 _ (by omega) (Nat.zero_le _)
          ⟨⟨_, Heap.get?_push_size _ rfl, rfl, rfl⟩, (hl1.push _)⟩ (fun b o e => Heap.get?_push_of_some _ (Heap.get?_push_of_some _ e)) ?fs0 ?fsR
        case fs0 => exact ⟨[], #[], 0, _, ts_new (Heap.get?_push_of_some _ gS), has0 ks⟩
        case fsR =>
          rintro ⟨h', g2, d', tk', os'⟩ L es ep t m T g z
          obtain rfl : g2 = s.gens := m.gens
          obtain rfl : d' = s.drawn := m.drawn
          obtain rfl : os' = s.os := m.os
          rw [n] at g
          refine wpAny_pure ?_
          show wpAny _ _ (ret Value.none) _ _ _
          exact wpAny_pure ⟨rfl, h', tk', L, es, ep, t, rfl, T, g, z⟩
      · cases r₂ with
        | error e => exact hr₂
        | ok fl₂ =>
          cases fl₂ with
          | ret r =>
            obtain ⟨rfl, h', tk, L, es, ep, t, rfl, T, g, z⟩ := hr₂
            repeat (any_goals (first | assumption | wp_step))
            exact q _ _ _ _ _ _ T g z
          | _ => exact hr₂.elim
    | _ => exact hr.elim
end
end Ms
set_option maxHeartbeats 400000
namespace Ms
open PySem PySem.Spec PyProof.Rows L2
def cd1 : Key → Int ⊕ List Nat
  | .inl i => .inl i
  | .inr x => .inr x.cps.toList
abbrev cd (k : Ky) : List (Int ⊕ List Nat) := k.map cd1
def isTx : Key → Bool
  | .inl _ => false
  | .inr _ => true
def Fit (shape : Nat → Bool) : Nat → Ky → Prop
  | _, [] => True
  | i, k :: r => shape i = isTx k ∧ Fit shape (i + 1) r
def Le (p q : Addr × Ky) : Prop := lexLt itemOrd (cd q.2) (cd p.2) = false
section
variable {P : Program} {w : World} {A : Around} {E : Value → Shared → Prop} {s : Shared} {a : Addr} {L : Rw} {es : Array (Int × Value)} {ep : Nat} {t : SetTable}
theorem items_cd {shape : Nat → Bool} {k : Ky} {vs : List Value} (h : ItemsAre (mixKind P w) k vs) : ∀ i, Fit shape i k → tupItems shape i vs = some (cd k) := by
  induction h with
  | nil => intro i _; simp [tupItems, cd]
  | @cons k0 v ks vs h1 _ ih =>
    rintro i ⟨f1, f2⟩
    rcases keyIs_shape h1 with ⟨n, t, rfl, rfl⟩ | ⟨x, t, rfl, rfl⟩
    · have f1' : shape i = false := f1
      simp [tupItems, f1', ih _ f2, cd, cd1]
    · have f1' : shape i = true := f1
      simp [tupItems, f1', ih _ f2, cd, cd1]
theorem key_cd {h : Heap} {shape : Nat → Bool} {k : Ky} {b : Addr} (x : IsK P w h k b) (f : Fit shape 0 k) : PyProof.Rows.G.tupKeyC h shape (.ref b) = some (cd k) := by
  obtain ⟨o, its, n, g, c, dt, all⟩ := x
  have i1 : PyProof.Rows.G.isTupObj h (.ref b) = true := by simp [PyProof.Rows.G.isTupObj, g, c]
  unfold PyProof.Rows.G.tupKeyC
  rw [if_pos i1]
  simp only [tupKey, g, dt]
  exact items_cd all 0 f
theorem tup_first {h : Heap} {shape : Nat → Bool} {k : Ky} {b : Addr} (x : IsK P w h k b) (f : Fit shape 0 k) (ne : k ≠ []) : ∃ u, TupOf h shape (.ref b) u := by
  obtain ⟨o, its, n, g, c, dt, all⟩ := x
  obtain ⟨xs⟩ := its
  cases all with
  | nil => exact (ne rfl).elim
  | @cons k0 v ks vs h1 h2 =>
    refine ⟨v, b, o, _, n, rfl, g, c, dt, rfl, fun z => ?_, fun z => ?_⟩
    · rcases keyIs_shape h1 with ⟨i, t, rfl, rfl⟩ | ⟨y, t, rfl, rfl⟩
      · exact ⟨i, t, rfl⟩
      · have := f.1; rw [z] at this; cases this
    · rcases keyIs_shape h1 with ⟨i, t, rfl, rfl⟩ | ⟨y, t, rfl, rfl⟩
      · have := f.1; rw [z] at this; cases this
      · exact ⟨y, t, rfl⟩
theorem tups_of {h : Heap} {shape : Nat → Bool} : ∀ (vs : List Value), (∀ v ∈ vs, ∃ u, TupOf h shape v u) → ∃ fs, TupsOf h shape vs fs
  | [], _ => ⟨[], .nil⟩
  | v :: vs, H => by
    obtain ⟨u, hu⟩ := H v List.mem_cons_self
    obtain ⟨fs, hf⟩ := tups_of vs fun x hx => H x (List.mem_cons_of_mem _ hx)
    exact ⟨u :: fs, .cons hu hf⟩
/-- addresses among the rows, in some order -/
theorem rows_of : ∀ (vs : List Value), (∀ v ∈ vs, ∃ q ∈ L, v = Value.ref q.1) → ∃ M : Rw, vs = M.map (fun q => Value.ref q.1) ∧ ∀ q ∈ M, q ∈ L
  | [], _ => ⟨[], rfl, fun _ z => nomatch z⟩
  | v :: vs, H => by
    obtain ⟨q, hq, e⟩ := H v List.mem_cons_self
    obtain ⟨M, e1, hs⟩ := rows_of vs fun u hu => H u (List.mem_cons_of_mem _ hu)
    refine ⟨q :: M, by rw [List.map_cons, e, e1], fun r hr => ?_⟩
    rcases List.mem_cons.mp hr with rfl | z
    · exact hq
    · exact hs r z
theorem nodup_map {α β : Type} {f : α → β} {l : List α} (h : (l.map f).Nodup) : l.Nodup := List.Pairwise.of_map f (fun _ _ n e => n (congrArg f e)) h
theorem rows_perm {h : Heap} (ks : ∀ p ∈ L, IsK P w h p.2 p.1) (nd : (L.map (·.2)).Nodup) {M : Rw} (sub : ∀ q ∈ M, q ∈ L) (pm : (M.map fun q => Value.ref q.1).Perm (L.map fun q => Value.ref q.1)) : M.Perm L := by
  have one : ∀ q ∈ L, ∀ r ∈ L, q.1 = r.1 → q = r := fun q hq r hr e => by
    have x := ks q hq
    rw [e] at x
    obtain ⟨o, its, n, g, c, dt, all⟩ := x
    obtain ⟨o', its', n', g', c', dt', all'⟩ := ks r hr
    rw [g] at g'
    cases g'
    rw [dt] at dt'
    cases dt'
    exact Prod.ext e (all.inj all')
  have nL : L.Nodup := nodup_map nd
  have nref : (L.map fun q => Value.ref q.1).Nodup := List.pairwise_map.mpr (List.Pairwise.imp_of_mem (fun {q r} hq hr n e => by
    injection e with e
    exact n (one q hq r hr e)) nL)
  have nM : M.Nodup := nodup_map (pm.nodup_iff.mpr nref)
  refine (List.perm_ext_iff_of_nodup nM nL).mpr fun q => ⟨sub q, fun hq => ?_⟩
  obtain ⟨r, hr, e⟩ := List.mem_map.mp (pm.mem_iff.mpr (List.mem_map.mpr ⟨q, hq, rfl⟩))
  injection e with e
  rw [← one r (sub r hr) q hq e]
  exact hr
theorem sorted_of (R : TS P w s.heap a L es ep t) (hh : A.handled = none) {shape : Nat → Bool} (fit : ∀ p ∈ L, p.2 ≠ [] ∧ Fit shape 0 p.2) {Q : Value → Shared → Prop}
    (q : ∀ s' p (out : Array Value) (c : Nat) (M : Rw), (∀ b o, s.heap.get? b = some o → s'.heap.get? b = some o) → s'.gens = s.gens → s'.os = s.os → s.heap.objs.size ≤ p →
      s'.heap.get? p = some (seqObj "list" out c) → out.toList = M.map (fun q => Value.ref q.1) → M.Perm L → M.Pairwise Le → Q (.ref p) s') :
    wpAny (model P w) A (call (.builtin "sorted") [.ref a]) Q E s := by
  obtain ⟨o, g, ex, dt⟩ := R.ob
  have n := es_len R.rows
  have few := R.few
  refine Calls.call_function_entry kind_sorted plain_sorted entry_sorted (args_sorted1 _) ?_
  unfold Builtin.«sorted»
  refine wpAny_bind (m := checkCount "sorted" 1 1 _) (wpAny_pure ?_)
  refine wpAny_bind (collect_set (A := A.in1) hh ⟨o, g, ex.1, dt⟩ (fits_of R) (by unfold scanBound; omega) R.tab.ris R.led fun s1 vs keep sz gn os pm => ?_)
  have vals : es.toList.map (·.2) = L.map fun q => Value.ref q.1 := by
    rw [R.rows, List.map_map]
    rfl
  rw [vals] at pm
  have len : vs.length < 64 := by rw [pm.length_eq, List.length_map]; exact few
  refine wpAny_bind (wpAny_newList ?_ (by rw [sizeLine_eq]; omega))
  have gl : (s1.heap.push (seqObj "list" vs.toArray 0)).get? s1.heap.objs.size = some (seqObj "list" vs.toArray 0) := Heap.get?_push_size _ rfl
  have kk : ∀ p ∈ L, IsK P w (s1.heap.push (seqObj "list" vs.toArray 0)) p.2 p.1 := fun p hp => k_keep (R.ks p hp) fun b u e => Heap.get?_push_of_some _ (keep b u e)
  have from_L : ∀ v ∈ vs, ∃ q ∈ L, v = Value.ref q.1 := fun v hv => by
    obtain ⟨q, hq, e⟩ := List.mem_map.mp (pm.mem_iff.mp hv)
    exact ⟨q, hq, e.symm⟩
  have keyed : ∀ v ∈ vs, ∃ l, PyProof.Rows.G.tupKeyC (s1.heap.push (seqObj "list" vs.toArray 0)) shape v = some l := fun v hv => by
    obtain ⟨q, hq, rfl⟩ := from_L v hv
    exact ⟨_, key_cd (kk q hq) (fit q hq).2⟩
  obtain ⟨fs, firsts⟩ := tups_of (h := s1.heap.push (seqObj "list" vs.toArray 0)) (shape := shape) vs fun v hv => by
    obtain ⟨q, hq, rfl⟩ := from_L v hv
    exact tup_first (kk q hq) (fit q hq).2 (fit q hq).1
  refine wpAny_bind (wpAny_holding (wpAny_call_entry slot_list_sort ⟨_, gl, rfl⟩ entry_list_sort (PyProof.Rows.G.list_sort_tups (s := { s1 with heap := s1.heap.push (seqObj "list" vs.toArray 0) }) gl firsts keyed (by rw [sizeLine_eq]; omega) fun st' a1 a2 a3 => ?_) (args_list_sort _)))
  refine ⟨_, rfl, ?_⟩
  obtain ⟨c, gc⟩ := sortedHeap_at (vs := vs) (out := (PyProof.Rows.arrOf st').map (·.2)) gl
  -- the pairs are (v, v)
  have a1' : (PyProof.Rows.arrOf st').toList.Perm (vs.zip vs) := by
    have := Array.perm_iff_toList_perm.mp a1
    rwa [pairsOf_toList] at this
  have twin : ∀ p ∈ (PyProof.Rows.arrOf st').toList, p.1 = p.2 := fun p hp => (mem_zip_self (a1'.mem_iff.mp hp)).1
  have outv : ((PyProof.Rows.arrOf st').map (·.2)).toList.Perm vs := by
    rw [Array.toList_map]
    have := a1'.map Prod.snd
    rwa [List.map_snd_zip (Nat.le_refl _)] at this
  obtain ⟨M, eM, sM⟩ := rows_of ((PyProof.Rows.arrOf st').map (·.2)).toList fun v hv => from_L v (outv.mem_iff.mp hv)
  have pM : M.Perm L := rows_perm kk R.nd sM (by rw [← eM]; exact outv.trans pm)
  have hkeys : KeysOf (PyProof.Rows.G.tupKindC (s1.heap.push (seqObj "list" vs.toArray 0)) shape) (PyProof.Rows.arrOf st') := fun p hp => by
    obtain ⟨e, hv⟩ := mem_zip_self (a1'.mem_iff.mp hp)
    exact keyed p.1 hv
  have size_eq : (PyProof.Rows.arrOf st').size = (pairsOf vs).size := by
    rw [← Array.length_toList, ← Array.length_toList]
    exact (Array.perm_iff_toList_perm.mp a1).length_eq
  have srt := keyLe_of_sorted hkeys (by rw [size_eq]; exact a2)
  have srt2 : M.Pairwise Le := by
    have e1 : (PyProof.Rows.arrOf st').toList.map (·.2) = M.map fun q => Value.ref q.1 := by rw [← Array.toList_map]; exact eM
    have p1 : ((PyProof.Rows.arrOf st').toList.map (·.2)).Pairwise (fun u v => ∃ x y, PyProof.Rows.G.tupKeyC (s1.heap.push (seqObj "list" vs.toArray 0)) shape u = some x ∧ PyProof.Rows.G.tupKeyC (s1.heap.push (seqObj "list" vs.toArray 0)) shape v = some y ∧ lexLt itemOrd y x = false) := by
      refine List.pairwise_map.mpr (List.Pairwise.imp_of_mem (fun {p r} hp hr h => ?_) srt)
      obtain ⟨x, y, h1, h2, h3⟩ := h
      rw [← twin p hp, ← twin r hr]
      exact ⟨x, y, h1, h2, h3⟩
    rw [e1] at p1
    refine List.Pairwise.imp_of_mem (fun {p r} hp hr h => ?_) (List.pairwise_map.mp p1)
    obtain ⟨x, y, h1, h2, h3⟩ := h
    rw [key_cd (kk p (sM p hp)) (fit p (sM p hp)).2] at h1
    rw [key_cd (kk r (sM r hr)) (fit r (sM r hr)).2] at h2
    cases h1
    cases h2
    exact h3
  refine wpAny_pure ⟨_, rfl, q _ s1.heap.objs.size _ c M (fun b u e => ?_) gn os sz gc eM pM srt2⟩
  have e1 := keep b u e
  have lt := Heap.lt_size e1
  show (sortedHeap (s1.heap.push (seqObj "list" vs.toArray 0)) s1.heap.objs.size vs _).get? b = some u
  rw [sortedHeap_old (Nat.ne_of_lt lt) (by rw [size_push']; exact Nat.lt_succ_of_lt lt)]
  exact Heap.get?_push_of_some _ e1
end
end Ms
set_option maxHeartbeats 400000
namespace Ms
open PySem PySem.Spec PyProof.Rows L2
structure TS0 (P : Program) (w : World) (h : Heap) (a : Addr) (L : Rw) : Prop where
  ex : ∃ (es : Array (Int × Value)) (ep : Nat) (t : SetTable), (∃ o, h.get? a = some o ∧ o.ExactSet ∧ o.data = .set es ep t) ∧ es.toList = L.map (ent P w) ∧ TabOk t (L.map fun p => hk P w p.2) ∧ (L.map (·.2)).Nodup ∧
    (w.params.followText "set-order" = true ∨ t.led = true) ∧ L.length * 5 < t.mask * 3 ∧ L.length < 64
/-- the set at a -/
def TSO (P : Program) (w : World) (a : Addr) (L : Rw) : HO := .ext fun h => TS0 P w h a L
theorem TS.zero {P : Program} {w : World} {h : Heap} {a : Addr} {L : Rw} {es : Array (Int × Value)} {ep : Nat} {t : SetTable} (R : TS P w h a L es ep t) : TS0 P w h a L := ⟨es, ep, t, R.ob, R.rows, R.tab, R.nd, R.led, R.room, R.few⟩
theorem TS0.full {P : Program} {w : World} {h : Heap} {a : Addr} {L : Rw} (R : TS0 P w h a L) (ks : ∀ p ∈ L, IsK P w h p.2 p.1) : ∃ es ep t, TS P w h a L es ep t := by
  obtain ⟨es, ep, t, h1, h2, h3, h4, h5, h6, h7⟩ := R.ex
  exact ⟨es, ep, t, h1, h2, h3, h4, ks, h5, h6, h7⟩
theorem tso_new {P : Program} {w : World} {H : Hp} {h : Heap} {a : Addr} {L : Rw} (R : TS0 P w h a L) : ObjOk P w H h a (TSO P w a L) := by
  obtain ⟨es, ep, t, ⟨o, g, r⟩, _⟩ := R.ex
  refine ⟨R, ⟨o, g⟩, fun h1 h2 p k => ?_⟩
  obtain ⟨es', ep', t', ⟨o', g', r'⟩, z⟩ := TS0.ex p
  exact ⟨es', ep', t', ⟨o', k o' g', r'⟩, z⟩
theorem items_kV {P : Program} {w : World} : ∀ {k : Ky} {us : List Value}, Vals (k.map kV) us → ItemsAre (mixKind P w) k us
  | [], _, .nil => .nil
  | .inl n :: k, _, .cons r t => by
    obtain ⟨tk, rfl⟩ := r
    exact .cons (keyIs_int n tk) (items_kV t)
  | .inr x :: k, _, .cons r t => by
    obtain ⟨tk, rfl⟩ := r
    exact .cons (keyIs_str x tk) (items_kV t)
theorem refs_of : ∀ {ks : Rw} {us : List Value}, Vals (ks.map fun p => V.ref p.1) us → us = ks.map fun p => Value.ref p.1
  | [], _, .nil => rfl
  | p :: ks, _, .cons r t => by
    cases r
    rw [refs_of t]
    rfl
theorem refs_vals : ∀ (ks : Rw), Vals (ks.map fun p => V.ref p.1) (ks.map fun p => Value.ref p.1)
  | [] => .nil
  | _ :: ks => .cons rfl (refs_vals ks)
section
variable {X : Cx}
theorem inv_k {pins : List (Addr × Obj)} {σ : L2.St} {H : Hp} {s : Shared} {b : Addr} {k : Ky} (I : Inv X pins σ H s) (h : SqT X.K H b (k.map kV)) : IsK X.prog X.w s.heap k b := by
  obtain ⟨its, r, ⟨o, g, c, n, dt⟩, _⟩ := I.tuple h
  exact ⟨o, its.toArray, n, g, c, dt, by simpa using items_kV r⟩
def rSet (K : PySem.W.Frag) (P : Program) (w : World) : List V → Hp → VK → Prop := fun xs H Q => ∃ (l : Addr) (ks : Rw), xs = [V.ref l] ∧ SqL K H l (ks.map fun p => V.ref p.1) ∧ (∀ p ∈ ks, SqT K H p.1 (p.2.map kV)) ∧ ks.length < 64 ∧
  ∀ a L, H a = none → (L.map (·.2)).Nodup → (∀ p ∈ L, p ∈ ks) → (∀ p ∈ ks, p.2 ∈ L.map (·.2)) → Q (.ref a) (upd H a (TSO P w a L))
theorem call_set (hc : X.calm = true) (hu : X.A.units + 64 < cLine) : CallR X (.type "set") (rSet X.K X.prog X.w) := by
  intro pins s σ H xs us Q I r h
  obtain ⟨l, ks, rfl, hl, kk, few, q⟩ := h
  rw [Vals.ref1 r]
  obtain ⟨its, rv, pl, _⟩ := I.list hl
  have hn : H s.heap.objs.size = none := I.hok.fresh (Nat.le_refl _)
  refine set_of (P := X.prog) (w := X.w) ks (I.ok.hd hc) pl.isList (by simpa using refs_of rv) (fun p hp => inv_k I (kk p hp)) few (by omega) fun h' tk L es ep t R g k => ?_
  exact ⟨.ref s.heap.objs.size, upd H s.heap.objs.size (TSO X.prog X.w s.heap.objs.size L), I.laid (t' := tk) k (Nat.le_refl _) (tso_new R.zero), rfl,
    q _ L hn R.nd (fun p hp => List.mem_of_mem_take (g.sub p hp)) fun p hp => g.all p (by rw [List.take_length]; exact hp)⟩
def rSorted (K : PySem.W.Frag) (P : Program) (w : World) : List V → Hp → VK → Prop := fun vs H Q => ∃ (a : Addr) (L : Rw) (shape : Nat → Bool), vs = [V.ref a] ∧ H a = some (TSO P w a L) ∧ (∀ p ∈ L, SqT K H p.1 (p.2.map kV)) ∧ (∀ p ∈ L, p.2 ≠ [] ∧ Fit shape 0 p.2) ∧
  ∀ (M : Rw) (p : Addr), M.Perm L → M.Pairwise Le → H p = none → Q (.ref p) (upd H p (.lst (M.map fun q => V.ref q.1)))
theorem call_sorted (hc : X.calm = true) : CallR X (.builtin "sorted") (rSorted X.K X.prog X.w) := by
  intro pins s σ H vs us Q I r h
  obtain ⟨a, L, shape, rfl, ha, kk, fit, q⟩ := h
  have R0 : TS0 X.prog X.w s.heap a L := (I.hok a _ ha).1
  obtain ⟨es, ep, t, R⟩ := R0.full fun p hp => inv_k I (kk p hp)
  rw [Vals.ref1 r]
  refine sorted_of R (I.ok.hd hc) fit fun s' p out c M k g o sz hp e pm pw => ?_
  have few : M.length < 64 := by rw [pm.length_eq]; exact R.few
  have len : (M.map fun q => V.ref q.1).length ≤ sizeLine := by rw [List.length_map, sizeLine_eq]; omega
  have hn : H p = none := I.hok.fresh sz
  have hv : Vals (M.map fun q => V.ref q.1) out.toList := by rw [e]; exact refs_vals M
  have J : Inv X pins σ (upd H p (.lst (M.map fun q => V.ref q.1))) { s with heap := s'.heap, gens := s'.gens, drawn := s'.drawn, toks := s'.toks } :=
    I.call (ch := []) (Un.laid k sz hn) (I.hok.laid k sz ⟨len, out.toList, c, hv, hp⟩) (by rw [g]; exact I.bare) (fun _ z => nomatch z)
  have same : s' = { s with heap := s'.heap, gens := s'.gens, drawn := s'.drawn, toks := s'.toks } := by
    cases s'
    cases s
    cases o
    rfl
  rw [same]
  exact ⟨.ref p, _, J, rfl, q M p pm pw hn⟩
end
end Ms
set_option maxHeartbeats 400000
namespace Mx
open PySem L2
/-! ## sorted(set(l)) of tuples (number, text, number) -/
abbrev Tri := Int × Str × Int
def trD : Tri → D := fun x => .tup [.int x.1, .str x.2.1, .int x.2.2]
def dTr : D → Option Tri
  | .tup [.int g, .str w, .int m] => some (g, w, m)
  | _ => none
def dTrs : List D → Option (List Tri)
  | [] => some []
  | d :: r => (dTr d).bind fun x => (dTrs r).bind fun xs => some (x :: xs)
def trK : Tri → Ms.Ky := fun x => [.inl x.1, .inr x.2.1, .inl x.2.2]
def trLt (a b : Tri) : Bool := PyProof.Rows.lexLt PyProof.Rows.itemOrd (Ms.cd (trK a)) (Ms.cd (trK b))
def insT (x : Tri) : List Tri → List Tri
  | [] => [x]
  | y :: r => if x = y then y :: r else if trLt x y then x :: y :: r else y :: insT x r
def srtT (l : List Tri) : List Tri := l.foldr insT []
def srtD : D → Option En
  | .lst l => (dTrs l).bind fun ts => if ts.length < 64 then some (.cel ((srtT ts).map trD)) else none
  | _ => none
theorem trK_inj {a b : Tri} (h : trK a = trK b) : a = b := by
  obtain ⟨g, w, m⟩ := a
  obtain ⟨g', w', m'⟩ := b
  simp [trK] at h
  simp [h]
theorem cd_inj {a b : Tri} (h : Ms.cd (trK a) = Ms.cd (trK b)) : a = b := by
  obtain ⟨g, ⟨w⟩, m⟩ := a
  obtain ⟨g', ⟨w'⟩, m'⟩ := b
  simp [Ms.cd, Ms.cd1, trK] at h
  obtain ⟨rfl, h, rfl⟩ := h
  subst h
  rfl
theorem trLt_irr {a : Tri} : trLt a a = false := PyProof.Rows.itemOrd.irrefl |> fun _ => PyProof.Rows.lex_irrefl _
theorem trLt_trans {a b c : Tri} (h : trLt a b = true) (h' : trLt b c = true) : trLt a c = true := PyProof.Rows.lex_trans _ _ _ h h'
theorem trLt_tot {a b : Tri} (h : trLt a b = false) (h' : trLt b a = false) : a = b := cd_inj (PyProof.Rows.lex_total _ _ h h')
abbrev TS' : List Tri → Prop := List.Pairwise fun a b => trLt a b = true
theorem mem_insT {x z : Tri} : ∀ {l : List Tri}, z ∈ insT x l ↔ z = x ∨ z ∈ l
  | [] => by simp [insT]
  | y :: r => by
    unfold insT
    split
    · rename_i h; subst h; simp
    · split
      · simp
      · simp only [List.mem_cons, mem_insT (l := r)]
        constructor
        · rintro (h | h | h) <;> simp [h]
        · rintro (h | h | h) <;> simp [h]
theorem insT_srt {x : Tri} : ∀ {l : List Tri}, TS' l → TS' (insT x l)
  | [], _ => by simp [insT]
  | y :: r, h => by
    have h1 := List.pairwise_cons.mp h
    unfold insT
    split
    · exact h
    · rename_i ne
      split
      · rename_i lt
        refine List.pairwise_cons.mpr ⟨fun z hz => ?_, h⟩
        rcases List.mem_cons.mp hz with rfl | hz
        · exact lt
        · exact trLt_trans lt (h1.1 z hz)
      · rename_i nlt
        refine List.pairwise_cons.mpr ⟨fun z hz => ?_, insT_srt h1.2⟩
        rcases mem_insT.mp hz with rfl | hz
        · cases e : trLt y z with
          | true => rfl
          | false => exact (ne (trLt_tot (by simpa using nlt) e)).elim
        · exact h1.1 z hz
theorem mem_srtT {z : Tri} : ∀ {l : List Tri}, z ∈ srtT l ↔ z ∈ l
  | [] => by simp [srtT]
  | x :: r => by
    show z ∈ insT x (srtT r) ↔ _
    rw [mem_insT, mem_srtT (l := r), List.mem_cons]
theorem srtT_srt : ∀ {l : List Tri}, TS' (srtT l)
  | [] => List.Pairwise.nil
  | x :: r => insT_srt (srtT_srt (l := r))
theorem srt_uniq : ∀ {l m : List Tri}, TS' l → TS' m → (∀ z, z ∈ l ↔ z ∈ m) → l = m
  | [], [], _, _, _ => rfl
  | [], y :: m, _, _, h => by have := (h y).mpr List.mem_cons_self; cases this
  | x :: l, [], _, _, h => by have := (h x).mp List.mem_cons_self; cases this
  | x :: l, y :: m, h1, h2, h => by
    obtain ⟨a1, a2⟩ := List.pairwise_cons.mp h1
    obtain ⟨b1, b2⟩ := List.pairwise_cons.mp h2
    have e : x = y := by
      rcases List.mem_cons.mp ((h x).mp List.mem_cons_self) with e | hx
      · exact e
      · rcases List.mem_cons.mp ((h y).mpr List.mem_cons_self) with e | hy
        · exact e.symm
        · have c1 := b1 x hx
          have c2 := a1 y hy
          have := trLt_trans c1 c2
          rw [trLt_irr] at this
          cases this
    subst e
    congr 1
    refine srt_uniq a2 b2 fun z => ⟨fun hz => ?_, fun hz => ?_⟩
    · rcases List.mem_cons.mp ((h z).mp (List.mem_cons_of_mem _ hz)) with e | q
      · subst e
        have := a1 z hz
        rw [trLt_irr] at this
        cases this
      · exact q
    · rcases List.mem_cons.mp ((h z).mpr (List.mem_cons_of_mem _ hz)) with e | q
      · subst e
        have := b1 z hz
        rw [trLt_irr] at this
        cases this
      · exact q
section
variable {X : Cx} {Mo : AS} {C : CM} {H : Hp} {σ : St} {ρ : Rho} {np : Nat}
theorem dTr_is {d : D} {x : Tri} (h : dTr d = some x) : d = trD x := by
  unfold dTr at h
  split at h
  · cases h; rfl
  · cases h
theorem dTrs_is : ∀ {l : List D} {ts : List Tri}, dTrs l = some ts → l = ts.map trD
  | [], _, h => by cases h; rfl
  | d :: r, _, h => by
    obtain ⟨x, h1, h2⟩ := Option.bind_eq_some_iff.mp (show (dTr d).bind (fun x => (dTrs r).bind fun xs => some (x :: xs)) = _ from h)
    obtain ⟨xs, h3, h4⟩ := Option.bind_eq_some_iff.mp h2
    cases h4
    rw [dTr_is h1, dTrs_is h3]
    rfl
/-- the tuples' addresses and keys -/
theorem rows_at {K : Frg} {M : AS} : ∀ {ts : List Tri} {xs : List V}, DsOk K M H (ts.map trD) xs → ∃ ks : List (Addr × Tri), ks.map (·.2) = ts ∧ xs = ks.map (fun p => V.ref p.1) ∧ ∀ p ∈ ks, SqT K H p.1 ((trK p.2).map kV) ∧ DOk K M H (trD p.2) (.ref p.1)
  | [], xs, h => by unfold DsOk at h; exact ⟨[], rfl, h, fun _ z => nomatch z⟩
  | x :: r, xs, h => by
    unfold DsOk at h
    obtain ⟨v, ys, rfl, t, u⟩ := h
    obtain ⟨ks, e1, e2, e3⟩ := rows_at (ts := r) u
    have t0 := t
    obtain ⟨a, zs, rfl, ta, ds⟩ := dTup.mp t
    have ez : zs = (trK x).map kV := by
      unfold DsOk at ds
      obtain ⟨v1, r1, rfl, w1, ds⟩ := ds
      unfold DsOk at ds
      obtain ⟨v2, r2, rfl, w2, ds⟩ := ds
      unfold DsOk at ds
      obtain ⟨v3, r3, rfl, w3, ds⟩ := ds
      unfold DsOk at ds
      subst ds
      rw [dInt] at w1 w3
      rw [dStr] at w2
      subst w1 w2 w3
      rfl
    refine ⟨(a, x) :: ks, by rw [List.map_cons, e1], by rw [List.map_cons, e2], fun p hp => ?_⟩
    rcases List.mem_cons.mp hp with rfl | hp
    · exact ⟨ez ▸ ta.sq, t0⟩
    · exact e3 p hp
theorem ds_of {K : Frg} {M : AS} : ∀ {ks : List (Addr × Tri)}, (∀ p ∈ ks, DOk K M H (trD p.2) (.ref p.1)) → DsOk K M H ((ks.map (·.2)).map trD) (ks.map fun p => V.ref p.1)
  | [], _ => DsOk.nil
  | p :: r, h => DsOk.cons (h p List.mem_cons_self) (ds_of fun q hq => h q (List.mem_cons_of_mem _ hq))
/-- .. over the rule of set and that of sorted -/
theorem srt_ok {l : List D} {e : En} {a : Addr} {xs : List V} {Q : VK} (h : srtD (.lst l) = some e) (E : Eok X.K Mo C none H σ ρ) (hs : SqL X.K H a xs) (hd : DsOk X.K (MM Mo C none) H l xs)
    (k : ∀ C' r w H', Eok X.K Mo C' r H' σ ρ → EnOk X.K Mo C' r H' w e → Stp np C H C' r H' → Q w H') :
    Ms.rSet X.K X.prog X.w [.ref a] H (fun w H2 => Ms.rSorted X.K X.prog X.w [w] H2 Q) := by
  obtain ⟨ts, h1, h2⟩ := Option.bind_eq_some_iff.mp (show (dTrs l).bind (fun ts => if ts.length < 64 then some (En.cel ((srtT ts).map trD)) else none) = some e from h)
  have el := dTrs_is h1
  subst el
  split at h2
  · rename_i few
    cases h2
    obtain ⟨ks, e1, e2, e3⟩ := rows_at hd
    have len : ks.length = ts.length := by rw [← e1, List.length_map]
    refine ⟨a, ks.map fun p => (p.1, trK p.2), rfl, by rw [List.map_map]; exact e2 ▸ hs, fun p hp => ?_, by rw [List.length_map, len]; exact few, fun b L hb nd sub all => ?_⟩
    · obtain ⟨q, hq, rfl⟩ := List.mem_map.mp hp
      exact (e3 q hq).1
    · obtain ⟨E1, S1, M1⟩ := E.grow (np := np) (H' := upd H b (Ms.TSO X.prog X.w b L)) (r' := none) (upd_grow hb) (fun _ z => nomatch z)
      have grow : ∀ c u, H c = some u → upd H b (Ms.TSO X.prog X.w b L) c = some u := upd_grow hb
      have from_ks : ∀ p ∈ L, ∃ q ∈ ks, p = (q.1, trK q.2) := fun p hp => by
        obtain ⟨q, hq, e⟩ := List.mem_map.mp (sub p hp)
        exact ⟨q, hq, e.symm⟩
      have sq : ∀ {c : Addr} {ys : List V}, SqT X.K H c ys → SqT X.K (upd H b (Ms.TSO X.prog X.w b L)) c ys := fun t => by
        rcases t with (t | ⟨o, t⟩) | t
        · exact .inl (.inl (grow _ _ t))
        · exact .inl (.inr ⟨o, grow _ _ t⟩)
        · exact .inr t
      refine ⟨b, L, fun i => decide (i = 1), rfl, upd_same, fun p hp => ?_, fun p hp => ?_, fun M c pm pw hc => ?_⟩
      · obtain ⟨q, hq, rfl⟩ := from_ks p hp
        exact sq (e3 q hq).1
      · obtain ⟨q, hq, rfl⟩ := from_ks p hp
        exact ⟨by simp [trK], by simp [Ms.Fit, trK, Ms.isTx]⟩
      · -- the rows again as triples
        have back : ∀ (M : Ms.Rw), (∀ p ∈ M, p ∈ L) → ∃ N : List (Addr × Tri), M = N.map (fun p => (p.1, trK p.2)) ∧ ∀ p ∈ N, p ∈ ks := by
          intro M
          induction M with
          | nil => intro _; exact ⟨[], rfl, fun _ z => nomatch z⟩
          | cons p r ih =>
            intro hM
            obtain ⟨q, hq, e⟩ := from_ks p (hM p List.mem_cons_self)
            obtain ⟨N, eN, hN⟩ := ih fun z hz => hM z (List.mem_cons_of_mem _ hz)
            refine ⟨q :: N, by rw [List.map_cons, e, eN], fun z hz => ?_⟩
            rcases List.mem_cons.mp hz with rfl | hz
            · exact hq
            · exact hN z hz
        obtain ⟨N, eN, hN⟩ := back M fun p hp => pm.mem_iff.mp hp
        subst eN
        have ndM : ((N.map fun p => (p.1, trK p.2)).map (·.2)).Nodup := (pm.map (·.2)).nodup_iff.mpr nd
        have eq : N.map (·.2) = srtT ts := by
          refine srt_uniq ?_ srtT_srt fun z => ?_
          · rw [List.pairwise_map] at pw
            rw [List.map_map] at ndM
            have nd2 : N.Pairwise fun p q => trK p.2 ≠ trK q.2 := List.pairwise_map.mp ndM
            refine List.pairwise_map.mpr (List.Pairwise.imp (fun {p q} hh => ?_) (pw.and nd2))
            cases e : trLt p.2 q.2 with
            | true => rfl
            | false => exact (hh.2 (congrArg trK (trLt_tot e hh.1))).elim
          · rw [mem_srtT, ← e1]
            constructor
            · intro hz
              obtain ⟨p, hp, rfl⟩ := List.mem_map.mp hz
              exact List.mem_map.mpr ⟨p, hN p hp, rfl⟩
            · intro hz
              obtain ⟨p, hp, rfl⟩ := List.mem_map.mp hz
              have := all (p.1, trK p.2) (List.mem_map.mpr ⟨p, hp, rfl⟩)
              obtain ⟨q, hq, e⟩ := List.mem_map.mp this
              have hq' := pm.mem_iff.mpr hq
              obtain ⟨r, hr, rfl⟩ := List.mem_map.mp hq'
              exact List.mem_map.mpr ⟨r, hr, trK_inj e⟩
        have ds : DsOk X.K (MM Mo C none) (upd H b (Ms.TSO X.prog X.w b L)) ((srtT ts).map trD) (N.map fun p => V.ref p.1) := by
          rw [← eq]
          exact ds_of fun p hp => DOk.mov M1 _ _ (e3 p (hN p hp)).2
        rw [List.map_map]
        exact new_lst E1 ds hc fun C' r v H' E' o' S' => k C' r v H' E' o' (S1.trans S')
  · cases h2
end
end Mx
set_option maxHeartbeats 400000
namespace Mx
open PySem L2

/-! ## The evaluator of expressions -/
def cstD : Const → Option D
  | .int i => some (.int i)
  | .bool b => some (.bl b)
  | .none => some .non
  | .str x => some (.str x)
  | _ => none
def bF (o : Option (En × Rho)) : Option (Bool × Rho) := match o with
  | some (.imm (.bl b), ρ) => some (b, ρ)
  | _ => none
def evBw (evb : Expr → Rho → Option (Bool × Rho)) (op : BoolOp) : List Expr → Rho → Option (Bool × Rho)
  | [], _ => none
  | a :: r, ρ => (evb a ρ).bind fun p => match r with
    | [] => some p
    | _ :: _ => match op, p.1 with
      | .And, true => evBw evb op r p.2
      | .And, false => some (false, p.2)
      | .Or, true => some (true, p.2)
      | .Or, false => evBw evb op r p.2
/-- the last operand, looked at -/
def brw (Γ : Gam) (ev : Expr → Rho → Option (En × Rho)) (e : Expr) (ρ : Rho) : Option (D × Rho) :=
  match e with
  | .Name x _ => match brName Γ x ρ with
    | some d => some (d, ρ)
    | none => immF (ev e) ρ
  | _ => immF (ev e) ρ
def celOf (Γ : Gam) (e : Expr) (ρ : Rho) : Option Nat := match e with
  | .Name x _ => if okN x && visB Γ.sc x then match ixOf Γ.N x with
    | some i => match ρ[i]? with
      | some (some (.cel _)) => some i
      | _ => none
    | none => none
    else none
  | _ => none
def tyNameD : D → String
  | .non => "NoneType"
  | .bl _ => "bool"
  | .int _ => "int"
  | .str _ => "str"
  | .tup _ => "tuple"
  | .lst _ => "list"
def tyB : List (Str × String) := [("int", "int"), ("bool", "bool"), ("str", "str"), ("tuple", "tuple"), ("list", "list")]
def ixD : D → Int → Option D
  | .lst l, i => atI l i
  | .tup l, i => atI l i
  | .str z, i => if z.length ≤ line then (atI z.cps.toList i).map fun c => .str ⟨#[c]⟩ else none
  | _, _ => none
def cutL (l : List D) (lo hi : Option Int) : List D := (l.drop (HT.sIx l.length 0 lo)).take (HT.sIx l.length l.length hi - HT.sIx l.length 0 lo)
def slD : D → Option Int → Option Int → Option En
  | .tup l, lo, hi => some (.imm (.tup (cutL l lo hi)))
  | .lst l, lo, hi => some (.cel (cutL l lo hi))
  | .str z, lo, hi => if z.length ≤ line then some (.imm (.str (cutS z lo hi))) else none
  | _, _, _ => none
def allBl : List D → Option Bool
  | [] => some true
  | .bl b :: r => (allBl r).map fun c => b && c
  | _ => none
/-- a built-in with one argument that it looks at -/
def bcall1 (f : Str) (d : D) : Option En :=
  if f = "len" then match d with
    | .str z => if z.length ≤ line then some (.imm (.int z.length)) else none
    | .lst l => some (.imm (.int l.length))
    | .tup l => some (.imm (.int l.length))
    | _ => none
  else if f = "int" then match d with
    | .int i => some (.imm (.int i))
    | .bl k => some (.imm (.int (if k then 1 else 0)))
    | _ => none
  else if f = "tuple" then match d with
    | .lst l => some (.imm (.tup l))
    | .tup l => some (.imm (.tup l))
    | _ => none
  else if f = "list" then match d with
    | .lst l => some (.cel l)
    | .tup l => some (.cel l)
    | _ => none
  else if f = "all" then match d with
    | .lst l => (allBl l).map fun b => .imm (.bl b)
    | _ => none
  else if f = "repr" then
    if (toPy d).showable && !(toPy d).hasDict && decide ((toPy d).depth ≤ 100) && decide ((toPy d).shown.length ≤ line) then some (.imm (.str (toPy d).shown)) else none
  else none
def bcall2 (f : Str) (x y : D) : Option En :=
  if f = "max" then match x, y with
    | .int i, .int j => some (.imm (.int (if j > i then j else i)))
    | _, _ => none
  else none
inductive Ag where
  | val (d : D) | slot (i : Nat)
/-- the parameters that the def changes are given as they stand, the others as things that stay -/
def evAw (Γ : Gam) (ev : Expr → Rho → Option (En × Rho)) : List Bool → List Expr → Rho → Option (List Ag × Rho)
  | _, [], ρ => some ([], ρ)
  | ms, e :: es, ρ => if isStar e then none else match (if ms.headD true then celOf Γ e ρ else none) with
    | some i => (evAw Γ ev ms.tail es ρ).bind fun q => some (.slot i :: q.1, q.2)
    | none => (immF (ev e) ρ).bind fun p => (evAw Γ ev ms.tail es p.2).bind fun q => some (.val p.1 :: q.1, q.2)
def enOf (ρ : Rho) : Ag → Option En
  | .val d => some (.imm d)
  | .slot i => match ρ[i]? with
    | some (some (.cel l)) => some (.cel l)
    | _ => none
def ensOf (ρ : Rho) : List Ag → Option (List En)
  | [] => some []
  | a :: r => (enOf ρ a).bind fun e => (ensOf ρ r).bind fun es => some (e :: es)
def slotsOf : List Ag → List Nat
  | [] => []
  | .slot i :: r => i :: slotsOf r
  | .val _ :: r => slotsOf r
def nodupB : List Nat → Bool
  | [] => true
  | i :: r => !r.contains i && nodupB r
/-- what the def gave back of the lists that it was given -/
def putBack : Rho → List Ag → List (Option (List D)) → Option Rho
  | ρ, [], [] => some ρ
  | ρ, .val _ :: r, none :: os => putBack ρ r os
  | ρ, .slot i :: r, some l :: os => putBack (ρ.set i (some (.cel l))) r os
  | _, _, _ => none
def kwNames : List Keyword → Option (List Str)
  | [] => some []
  | ⟨some x, _, _⟩ :: r => (kwNames r).map fun q => x :: q
  | _ => none
def kwExprs : List Keyword → List Expr
  | [] => []
  | ⟨_, e, _⟩ :: r => e :: kwExprs r
def evO (ev : Expr → Rho → Option (En × Rho)) : Option Expr → Rho → Option (Option Int × Rho)
  | none, ρ => some (none, ρ)
  | some e, ρ => (immF (ev e) ρ).bind fun p => match p.1 with
    | .int i => some (some i, p.2)
    | _ => none
def lcTest (evt : Expr → Rho → Option (Bool × Rho)) : List Expr → Rho → Option (Bool × Rho)
  | [], ρ => some (true, ρ)
  | [c], ρ => evt c ρ
  | _, _ => none
/-- the turns of a comprehension: test and element at each item in slot i -/
def lcTurns (test : Rho → Option (Bool × Rho)) (elt : Rho → Option (En × Rho)) (i : Nat) : List D → Rho → Option (List D × Rho)
  | [], ρ => some ([], ρ)
  | d :: ds, ρ => (test (ρ.set i (some (.imm d)))).bind fun p =>
    if p.1 then (immF elt p.2).bind fun q => (lcTurns test elt i ds (q.2.set i none)).bind fun r => some (q.1 :: r.1, r.2)
    else lcTurns test elt i ds (p.2.set i none)
def rangeD (n : Nat) : List D := (List.range n).map fun (i : Nat) => D.int (0 + (i : Int))
def rangeF (lo : Int) (n : Nat) : List D := (List.range n).map fun (i : Nat) => D.int (lo + (i : Int))
def enuF : Nat → List D → List D
  | _, [] => []
  | i, d :: ds => .tup [.int (i : Nat), d] :: enuF (i + 1) ds
def zipD : List D → List D → List D
  | d :: ds, e :: es => .tup [d, e] :: zipD ds es
  | _, _ => []
def seqD (d : D) : Option (List D) := match d with
  | .lst l => some l
  | .tup l => some l
  | _ => none
def rngD (d : D) : Option (List D) := match d with
  | .int n => if n ≤ 1000000 ∧ -1000000 ≤ n then some (rangeD n.toNat) else none
  | _ => none
def rng2D (x y : D) : Option (List D) := match x, y with
  | .int i, .int j => if (i ≤ 1000000 ∧ -1000000 ≤ i) ∧ (j ≤ 1000000 ∧ -1000000 ≤ j) then some (rangeF i (j - i).toNat) else none
  | _, _ => none
def zip2D (x y : D) : Option (List D) := match x, y with
  | .lst l, .lst m => some (zipD l m)
  | .tup l, .tup m => some (zipD l m)
  | _, _ => none
/-- what is walked -/
inductive IK where
  | seq | rng | rng2 | enu | zip
def itK : IK → List D → Option (List D)
  | .seq, [d] => seqD d
  | .rng, [d] => rngD d
  | .rng2, [x, y] => rng2D x y
  | .enu, [d] => (seqD d).bind fun l => some (enuF 0 l)
  | .zip, [x, y] => zip2D x y
  | _, _ => none
/-- .. read off the text; enumerate and zip for targets that are tuples -/
def ikOf (tt : Bool) (sc : Scope) (B : Str → Bool) (e : Expr) : Option (IK × List Expr) := match e with
  | .Call (.Name f _) args [] _ => if glB sc f && B f then
      if f = "range" then match args with
        | [a] => some (.rng, [a])
        | [a, b] => some (.rng2, [a, b])
        | _ => none
      else if f = "enumerate" then match args with
        | [a] => if tt then some (.enu, [a]) else none
        | _ => none
      else if f = "zip" then match args with
        | [a, b] => if tt then some (.zip, [a, b]) else none
        | _ => none
      else some (.seq, [e])
    else some (.seq, [e])
  | _ => some (.seq, [e])
def evIt (tt : Bool) (Γ : Gam) (ev : Expr → Rho → Option (En × Rho)) (e : Expr) (ρ : Rho) : Option (List D × Rho) :=
  (ikOf tt Γ.sc Γ.B e).bind fun k => (evLw ev k.2 ρ).bind fun q => (itK k.1 q.1).bind fun items => some (items, q.2)
/-- targets: their names' slots -/
def tsIx (N : List Str) : List Expr → Option (List (Str × Nat))
  | [] => some []
  | .Name x _ :: r => (ixOf N x).bind fun i => (tsIx N r).bind fun q => some ((x, i) :: q)
  | _ => none
def stAll : List Nat → List D → Rho → Option Rho
  | [], [], ρ => some ρ
  | i :: is, d :: ds, ρ => stAll is ds (ρ.set i (some (.imm d)))
  | _, _, _ => none
def stTup (is : List Nat) (d : D) (ρ : Rho) : Option Rho := match d with
  | .tup l => stAll is l ρ
  | _ => none
def wipeR (ρ : Rho) : List Nat → Rho
  | [] => ρ
  | v :: vs => (wipeR ρ vs).set v none
/-- the turns of a comprehension whose target is kept by st, in the slots vs -/
def lcTurnsG (st : D → Rho → Option Rho) (vs : List Nat) (test : Rho → Option (Bool × Rho)) (elt : Rho → Option (En × Rho)) : List D → Rho → Option (List D × Rho)
  | [], ρ => some ([], ρ)
  | d :: ds, ρ => (st d ρ).bind fun ρ0 => (test ρ0).bind fun p =>
    if p.1 then (immF elt p.2).bind fun q => (lcTurnsG st vs test elt ds (wipeR q.2 vs)).bind fun r => some (q.1 :: r.1, r.2)
    else lcTurnsG st vs test elt ds (wipeR p.2 vs)
theorem lcTurns_G {test : Rho → Option (Bool × Rho)} {elt : Rho → Option (En × Rho)} {i : Nat} : ∀ {ds : List D} {ρ : Rho}, lcTurns test elt i ds ρ = lcTurnsG (fun d ρ => some (ρ.set i (some (.imm d)))) [i] test elt ds ρ
  | [], ρ => rfl
  | d :: ds, ρ => by
    unfold lcTurns lcTurnsG
    show _ = (test (ρ.set i (some (.imm d)))).bind _
    cases test (ρ.set i (some (.imm d))) with
    | none => rfl
    | some p =>
      show (if p.1 = true then _ else _) = (if p.1 = true then _ else _)
      cases p.1 with
      | false => exact lcTurns_G
      | true =>
        show (immF elt p.2).bind _ = (immF elt p.2).bind _
        cases immF elt p.2 with
        | none => rfl
        | some q =>
          show (lcTurns test elt i ds (q.2.set i none)).bind _ = (lcTurnsG _ [i] test elt ds (wipeR q.2 [i])).bind _
          rw [lcTurns_G]
          rfl
def isSet : Expr → Bool
  | .Set .. => true
  | _ => false
def isSlice : Expr → Bool
  | .Slice .. => true
  | _ => false

/-- set(x), by name -/
def setArg (Γ : Gam) : Expr → Option Expr
  | .Call (.Name g _) [x] [] _ => if g = "set" ∧ glB Γ.sc g = true ∧ Γ.B g = true ∧ isStar x = false then some x else none
  | _ => none
def isM1 : Expr → Bool
  | .UnaryOp .USub (.Constant (.int 1) _ _) _ => true
  | _ => false
def revD : D → Option En
  | .lst l => some (.cel l.reverse)
  | .tup l => some (.imm (.tup l.reverse))
  | .str z => if z.length ≤ line then some (.imm (.str (mxRev z))) else none
  | _ => none
def ev : Nat → Gam → Bool → Expr → Rho → Option (En × Rho)
  | 0, _, _, _, _ => none
  | n + 1, Γ, t, e, ρ => match e with
    | .UnaryOp .Not a _ => (bF (ev n Γ t a ρ)).bind fun p => some (.imm (.bl (!p.1)), p.2)
    | .BoolOp op vs _ => (evBw (fun a ρ => bF (ev n Γ t a ρ)) op vs ρ).bind fun p => some (.imm (.bl p.1), p.2)
    | .IfExp c a b _ => if t then none else (bF (ev n Γ true c ρ)).bind fun p => if p.1 then ev n Γ false a p.2 else ev n Γ false b p.2
    | .Compare a [op] [b] _ => if isSet b then none else match a, b with
      | .Call (.Name f _) [x] [] _, .Name T _ =>
        if f = "type" ∧ glB Γ.sc f = true ∧ Γ.B f = true then
          if okN T ∧ glB Γ.sc T = true ∧ Γ.B T = true ∧ op = .Eq ∧ isStar x = false then (immF (ev n Γ false x) ρ).bind fun p => match tyB.lookup T with
            | some s => some (.imm (.bl (tyNameD p.1 == s)), p.2)
            | none => none
          else none
        else (immF (ev n Γ false a) ρ).bind fun p => (brw Γ (ev n Γ false) b p.2).bind fun q => (cmpD op p.1 q.1).bind fun c => some (.imm (.bl c), q.2)
      | _, _ => (immF (ev n Γ false a) ρ).bind fun p => (brw Γ (ev n Γ false) b p.2).bind fun q => (cmpD op p.1 q.1).bind fun c => some (.imm (.bl c), q.2)
    | .Compare a [op, op'] [b, c] _ => if isSet b || isSet c then none else (immF (ev n Γ false a) ρ).bind fun p => (immF (ev n Γ false b) p.2).bind fun q => (cmpD op p.1 q.1).bind fun k =>
        if k then (immF (ev n Γ false c) q.2).bind fun r => (cmpD op' q.1 r.1).bind fun k' => some (.imm (.bl k'), r.2) else some (.imm (.bl false), q.2)
    | .Name x _ => evName Γ x ρ
    | .Constant c _ _ => (cstD c).bind fun d => some (.imm d, ρ)
    | .Tuple es _ _ => (evLw (ev n Γ false) es ρ).bind fun q => if q.1.length ≤ line then some (.imm (.tup q.1), q.2) else none
    | .List es _ => (evLw (ev n Γ false) es ρ).bind fun q => if q.1.length ≤ line then some (.cel q.1, q.2) else none
    | .BinOp a op b _ => (immF (ev n Γ false a) ρ).bind fun p => (immF (ev n Γ false b) p.2).bind fun q => (binD op p.1 q.1).bind fun e => some (e, q.2)
    | .UnaryOp .USub a _ => (immF (ev n Γ false a) ρ).bind fun p => match p.1 with
      | .int i => some (.imm (.int (-i)), p.2)
      | _ => none
    | .Subscript a i _ => match i with
      | .Slice lo hi none _ => (immF (ev n Γ false a) ρ).bind fun p => (evO (ev n Γ false) lo p.2).bind fun q => (evO (ev n Γ false) hi q.2).bind fun r => (slD p.1 q.1 r.1).bind fun e => some (e, r.2)
      | .Slice none none (some st) _ => if isM1 st then (immF (ev n Γ false a) ρ).bind fun p => (revD p.1).bind fun e => some (e, p.2) else none
      | _ => if isSlice i then none else match celOf Γ a ρ with
        | some k => (immF (ev n Γ false i) ρ).bind fun q => match q.1, q.2[k]? with
          | .int j, some (some (.cel l)) => (ixD (.lst l) j).bind fun d => some (.imm d, q.2)
          | _, _ => none
        | none => (immF (ev n Γ false a) ρ).bind fun p => (immF (ev n Γ false i) p.2).bind fun q => match q.1 with
          | .int j => (ixD p.1 j).bind fun d => some (.imm d, q.2)
          | _ => none
    | .Call (.Name f _) args kws _ => if okN f && glB Γ.sc f then match Γ.Phi f with
      | some F => (evAw Γ (ev n Γ false) F.cm args ρ).bind fun p => (kwNames kws).bind fun ks => (evLw (ev n Γ false) (kwExprs kws) p.2).bind fun q =>
          (if nodupB (slotsOf (mixA F.ps ks p.1 (q.1.map .val))) && F.shapes.contains (p.1.length, ks) then ensOf q.2 (mixA F.ps ks p.1 (q.1.map .val)) else none).bind fun ens =>
          (if ens.length = F.ps.length then F.run ens else none).bind fun r => (putBack q.2 (mixA F.ps ks p.1 (q.1.map .val)) r.2).bind fun ρ' => some (r.1, ρ')
      | none => if Γ.B f then match kws, args with
        | [], [a] => if isStar a then none else if f = "sorted" then (setArg Γ a).bind fun x => (brw Γ (ev n Γ false) x ρ).bind fun p => (srtD p.1).bind fun e => some (e, p.2)
            else (brw Γ (ev n Γ false) a ρ).bind fun p => (bcall1 f p.1).bind fun e => some (e, p.2)
        | [], [a, b] => if f = "isinstance" then match b with
            | .Name T _ => if okN T ∧ glB Γ.sc T = true ∧ Γ.B T = true ∧ isStar a = false then (immF (ev n Γ false a) ρ).bind fun p => (tyB.lookup T).bind fun s => (kitB (tyNameD p.1) s).bind fun c => some (.imm (.bl c), p.2) else none
            | _ => none
          else (evLw (ev n Γ false) [a, b] ρ).bind fun q => match q.1 with
            | [x, y] => (bcall2 f x y).bind fun e => some (e, q.2)
            | _ => none
        | _, _ => none
        else none
      else none
    | .ListComp elt [⟨.Name y yp, iter, ifs, k⟩] scope _ => if k = 0 ∧ isSet iter = false then match ixOf Γ.N y with
      | some i => if blkC Γ.N Γ.sc scope [(y, i)] = true ∧ locB (relS scope Γ.sc) y = true ∧ (scope.names.lookup y = some .cell ∨ (relS scope Γ.sc).names.lookup y = some .local) then
          (evIt false Γ (ev n Γ false) iter ρ).bind fun p => match p.2[i]? with
            | some (some (.cel _)) => none
            | none => none
            | some old => (lcTurns (lcTest (fun c ρ => bF (ev n { Γ with sc := relS scope Γ.sc } true c ρ)) ifs) (ev n { Γ with sc := relS scope Γ.sc } false elt) i p.1 (p.2.set i none)).bind fun q =>
                if q.1.length ≤ line then some (.cel q.1, q.2.set i old) else none
        else none
      | none => none
      else none
    | .ListComp elt [⟨.Tuple ts _ _, iter, ifs, k⟩] scope _ => if k = 0 ∧ isSet iter = false then match tsIx Γ.N ts with
      | some own => if blkC Γ.N Γ.sc scope own = true ∧ own.all (fun y => locB (relS scope Γ.sc) y.1 && (decide (scope.names.lookup y.1 = some .cell) || decide ((relS scope Γ.sc).names.lookup y.1 = some .local))) = true then
          (evIt true Γ (ev n Γ false) iter ρ).bind fun p => if (own.map (·.2)).all (fun i => match p.2[i]? with | some none => true | _ => false) then
            (lcTurnsG (stTup (own.map (·.2))) (own.map (·.2)) (lcTest (fun c ρ => bF (ev n { Γ with sc := relS scope Γ.sc } true c ρ)) ifs) (ev n { Γ with sc := relS scope Γ.sc } false elt) p.1 p.2).bind fun q =>
                if q.1.length ≤ line then some (.cel q.1, q.2) else none
          else none
        else none
      | none => none
      else none
    | _ => none
end Mx
set_option maxHeartbeats 400000
namespace Mx
open PySem L2

def BrOk (K : Frg) (Mo : AS) (C : CM) (H : Hp) (d : D) (v : V) : Prop :=
  DOk K (MM Mo C none) H d v ∨ ∃ l a xs, d = .lst l ∧ v = .ref a ∧ H a = some (.lst xs) ∧ DsOk K (MM Mo C none) H l xs
def noM : AS := fun _ => False
theorem DOk.any {K : Frg} {M : AS} {H : Hp} {d : D} {v : V} (h : DOk K M H d v) : DOk K noM H d v := DOk.mov (fun a o e _ => ⟨e, fun z => z⟩) d v h
theorem DsOk.any {K : Frg} {M : AS} {H : Hp} {d : List D} {v : List V} (h : DsOk K M H d v) : DsOk K noM H d v := DsOk.mov (fun a o e _ => ⟨e, fun z => z⟩) d v h
theorem BrOk.any {K : Frg} {Mo : AS} {C : CM} {H : Hp} {d : D} {v : V} (h : BrOk K Mo C H d v) : DOk K noM H d v := by
  rcases h with h | ⟨l, a, xs, rfl, rfl, h1, h2⟩
  · exact h.any
  · exact dLst.mpr ⟨a, xs, rfl, .inl ⟨.inl h1, fun z => z⟩, h2.any⟩
def tBr (np : Nat) (K : Frg) (F : Rho → Option (D × Rho)) : TE := fun σ H Q => ∃ Mo C ρ d ρ', Eok K Mo C none H σ ρ ∧ F ρ = some (d, ρ') ∧
  ∀ C' v H', Eok K Mo C' none H' σ ρ' → BrOk K Mo C' H' d v → Stp np C H C' none H' → Q v H'
section
variable {Γ : Gam} {X : Cx} {ev' : Expr → Rho → Option (En × Rho)}
theorem brw_ok (c : CxOk Γ X) (hev : ∀ e, PE X e (tD Γ.np X.K (ev' e))) (e : Expr) : PE X e (tBr Γ.np X.K (brw Γ ev' e)) := by
  refine PE.of fun σ H Q h => ?_
  obtain ⟨Mo, C, ρ, d, ρ', E, hF, k⟩ := h
  have gen : immF (ev' e) ρ = some (d, ρ') → ∃ t, PE X e t ∧ t σ H Q := fun h => ⟨_, (hev e).toI, Mo, C, ρ, d, ρ', E, h, fun C' v H' E' d' s' => k C' v H' E' (.inl d') s'⟩
  unfold brw at hF
  split at hF
  · rename_i x p
    split at hF
    · rename_i d' hb
      cases hF
      unfold brName at hb
      split at hb
      · rename_i ok
        obtain ⟨o1, o2, o3⟩ := okN_d ok
        split at hb
        · rename_i vi
          cases hi : ixOf Γ.N x with
          | none => simp only [hi] at hb; cases hb
          | some i =>
            simp only [hi] at hb
            have hN : X.N[i]? = some x := by rw [c.nN]; exact ixOf_get hi
            have hv : Vis X.env.scope x := by rw [c.sc]; exact vis_of vi
            refine ⟨_, pe_var hN hv o1 o2, ?_⟩
            split at hb
            · rename_i en ed
              cases hb
              cases en with
              | imm d =>
                obtain ⟨v, h1, h2⟩ := E.imm i d ed
                exact ⟨v, h1, k C v H E (.inl h2) Stp.refl⟩
              | cel l =>
                obtain ⟨a, xs, h1, h2, h3, h4⟩ := E.cel i l ed
                exact ⟨_, h2, k C _ H E (.inr ⟨l, a, xs, rfl, rfl, h3, h4⟩) Stp.refl⟩
            · cases hb
        · cases hb
      · cases hb
    · exact gen hF
  · exact gen hF

theorem celOf_ok (c : CxOk Γ X) {e : Expr} {ρ : Rho} {i : Nat} (h : celOf Γ e ρ = some i) : PE X e (tVar i) ∧ ∃ l, ρ[i]? = some (some (.cel l)) := by
  unfold celOf at h
  split at h
  · rename_i x p
    split at h
    · rename_i b
      rw [Bool.and_eq_true] at b
      obtain ⟨o1, o2, o3⟩ := okN_d b.1
      cases hi : ixOf Γ.N x with
      | none => simp only [hi] at h; cases h
      | some j =>
        simp only [hi] at h
        split at h
        · rename_i l ed
          cases h
          exact ⟨pe_var (by rw [c.nN]; exact ixOf_get hi) (by rw [c.sc]; exact vis_of b.2) o1 o2, l, ed⟩
        · cases h
    · cases h
  · cases h

/-! ### built-ins -/
theorem seq_of {K : Frg} {M : AS} {H : Hp} {l : List D} {v : V} (h : DOk K M H (.lst l) v ∨ DOk K M H (.tup l) v) : ∃ a xs, v = .ref a ∧ (SqL K H a xs ∨ SqT K H a xs) ∧ DsOk K M H l xs := by
  rcases h with h | h
  · obtain ⟨a, xs, e, t, r⟩ := dLst.mp h
    exact ⟨a, xs, e, .inl t.sq, r⟩
  · obtain ⟨a, xs, e, t, r⟩ := dTup.mp h
    exact ⟨a, xs, e, .inr t.sq, r⟩
theorem allBl_of {K : Frg} {M : AS} {H : Hp} : ∀ {l : List D} {xs : List V} {b : Bool}, DsOk K M H l xs → allBl l = some b → ∃ bs : List Bool, xs = bs.map V.bl ∧ bs.all id = b
  | [], xs, b, h, e => by unfold DsOk at h; cases e; exact ⟨[], h, rfl⟩
  | d :: ds, xs, b, h, e => by
    unfold DsOk at h
    obtain ⟨x, r, rfl, t, u⟩ := h
    cases d with
    | bl k =>
      unfold allBl at e
      obtain ⟨c, e1, e2⟩ := Option.map_eq_some_iff.mp e
      obtain ⟨bs, rfl, e3⟩ := allBl_of u e1
      rw [dBl] at t
      subst t
      exact ⟨k :: bs, rfl, by simp [e3, e2]⟩
    | non => cases e
    | int _ => cases e
    | str _ => cases e
    | tup _ => cases e
    | lst _ => cases e
/-- repr of data -/
def rRepr (K : Frg) : List V → Hp → VK → Prop := fun xs H Q => ∃ v d, xs = [v] ∧ Dp K H v d ∧ d.showable = true ∧ d.hasDict = false ∧ d.depth ≤ 100 ∧ d.shown.length ≤ sizeLine ∧ Q (.str d.shown) H

theorem call_repr (hr : Room 1 X.A) (hg : X.A.guards = some []) : CallR X (.builtin "repr") (rRepr X.K) := by
  intro pins s σ H xs us Q I r h
  obtain ⟨v, d, rfl, hd, h1, h2, h3, h4, q⟩ := h
  obtain ⟨u, rfl, rv⟩ := vals1 r
  have un : X.A.units + 200 < cLine := by have := hr.un; omega
  have rf : ∀ a, u = .ref a → wpAny (model X.prog X.w) X.A (call (.builtin "repr") [u]) (EP X pins σ Q) X.xe s := fun a e => by
    subst e
    obtain ⟨as, rd⟩ := Dp.reads I d v (.ref a) hd rv
    refine repr_of_reads' rd h1 (fun z => by rw [h2] at z; cases z) hg (by omega) (fun _ _ e => e) (fun h' u tk hk => ?_) h4
    exact ⟨.str _, H, I.kept (t' := tk) hk, ⟨_, rfl⟩, q⟩
  cases hd with
  | non =>
    cases rv
    refine PySem.P.repr_of_none ⟨.str _, H, I.tok _, ⟨_, rfl⟩, ?_⟩
    simpa only [PyData.shown] using q
  | bl b =>
    cases rv
    refine PySem.P.repr_of_bool ⟨.str _, H, I.tok _, ⟨_, rfl⟩, ?_⟩
    simpa only [PyData.shown] using q
  | int i =>
    obtain ⟨t, rfl⟩ := rv
    refine PySem.P.repr_of_int (by simpa [PyData.showable] using h1) ⟨.str _, H, I.tok _, ⟨_, rfl⟩, ?_⟩
    simpa only [PyData.shown] using q
  | str x =>
    obtain ⟨t, rfl⟩ := rv
    refine PySem.P.repr_of_str ⟨.str _, H, I.tok _, ⟨_, rfl⟩, ?_⟩ ?_
    · simpa only [PyData.shown] using q
    · simpa only [PyData.shown] using h4
  | lst _ _ => exact rf _ rv
  | tup _ _ => exact rf _ rv

variable {Mo : AS} {C : CM} {H : Hp} {σ : St} {ρ : Rho} {np : Nat}
theorem bcall1_ok (c : CxOk Γ X) {f : Str} {d : D} {e : En} {v : V} {Q : VK} (hop : bcall1 f d = some e) (E : Eok X.K Mo C none H σ ρ) (hx : BrOk X.K Mo C H d v)
    (k : ∀ C' r w H', Eok X.K Mo C' r H' σ ρ → EnOk X.K Mo C' r H' w e → Stp np C H C' r H' → Q w H') :
    (∃ id r, bootBuiltins f = some (.builtin id) ∧ CallR X (.builtin id) r ∧ r [v] H Q) ∨ (∃ T r, bootBuiltins f = some (.type T) ∧ CallR X (.type T) r ∧ r [v] H Q) := by
  have sc : ∀ {d : D} {w : V}, e = .imm d → (DOk X.K (MM Mo C none) H d w) → Q w H := fun {d w} q z => k C none w H E (by rw [q]; exact ⟨rfl, z⟩) Stp.refl
  have sq : ∀ {l : List D}, (d = .lst l ∨ d = .tup l) → ∃ a xs, v = .ref a ∧ (SqL X.K H a xs ∨ SqT X.K H a xs) ∧ DsOk X.K (MM Mo C none) H l xs ∧ (d = .lst l → SqL X.K H a xs) ∧ (d = .tup l → SqT X.K H a xs ∧ DOk X.K (MM Mo C none) H (.tup l) v) := by
    intro l hl
    rcases hx with hx | ⟨l', a, xs, rfl, rfl, h1, h2⟩
    · rcases hl with rfl | rfl
      · obtain ⟨a, xs, rfl, t, r⟩ := dLst.mp hx
        exact ⟨a, xs, rfl, .inl t.sq, r, fun _ => t.sq, fun z => (nomatch z)⟩
      · obtain ⟨a, xs, rfl, t, r⟩ := dTup.mp hx
        exact ⟨a, xs, rfl, .inr t.sq, r, fun z => (nomatch z), fun _ => ⟨t.sq, hx⟩⟩
    · rcases hl with hl | hl
      · cases hl
        exact ⟨a, xs, rfl, .inl (SqL.of h1), h2, fun _ => SqL.of h1, fun z => (nomatch z)⟩
      · cases hl
  unfold bcall1 at hop
  split at hop
  · rename_i hf
    subst hf
    refine .inl ⟨"len", ?_⟩
    split at hop
    · rename_i z
      split at hop
      · rename_i hz
        cases hop
        have := hx.any
        rw [dStr] at this
        subst this
        exact ⟨_, PySem.boot_len, call_len_str, z, rfl, by rw [line_eq]; exact hz, sc rfl (dInt.mpr rfl)⟩
      · cases hop
    · cases hop
      obtain ⟨a, xs, rfl, h1, h2, _⟩ := sq (.inl rfl)
      exact ⟨_, PySem.boot_len, call_len_seq, a, xs, rfl, h1, sc rfl (dInt.mpr (by rw [h2.len]))⟩
    · cases hop
      obtain ⟨a, xs, rfl, h1, h2, _⟩ := sq (.inr rfl)
      exact ⟨_, PySem.boot_len, call_len_seq, a, xs, rfl, h1, sc rfl (dInt.mpr (by rw [h2.len]))⟩
    · cases hop
  · split at hop
    · rename_i _ hf
      subst hf
      refine .inr ⟨"int", ?_⟩
      split at hop
      · cases hop
        have := hx.any
        rw [dInt] at this
        subst this
        exact ⟨_, by decide +kernel, call_int1, .inl ⟨_, rfl, sc rfl (dInt.mpr rfl)⟩⟩
      · cases hop
        have := hx.any
        rw [dBl] at this
        subst this
        exact ⟨_, by decide +kernel, call_int1, .inr ⟨_, rfl, sc rfl (dInt.mpr rfl)⟩⟩
      · cases hop
    · split at hop
      · rename_i _ _ hf
        subst hf
        refine .inr ⟨"tuple", ?_⟩
        split at hop
        · cases hop
          obtain ⟨a, xs, rfl, h1, h2, h3, _⟩ := sq (.inl rfl)
          exact ⟨_, by decide +kernel, call_tuple_of, a, xs, rfl, .inl ⟨h3 rfl, fun p hp => new_tup E h2 hp k⟩⟩
        · cases hop
          obtain ⟨a, xs, rfl, h1, h2, _, h3⟩ := sq (.inr rfl)
          obtain ⟨h4, h5⟩ := h3 rfl
          exact ⟨_, by decide +kernel, call_tuple_of, a, xs, rfl, .inr ⟨h4, sc rfl h5⟩⟩
        · cases hop
      · split at hop
        · rename_i _ _ _ hf
          subst hf
          refine .inr ⟨"list", ?_⟩
          split at hop
          · cases hop
            obtain ⟨a, xs, rfl, h1, h2, h3, _⟩ := sq (.inl rfl)
            exact ⟨_, by decide +kernel, call_list_of, a, xs, rfl, h1, fun p hp => new_lst E h2 hp k⟩
          · cases hop
            obtain ⟨a, xs, rfl, h1, h2, h3, _⟩ := sq (.inr rfl)
            exact ⟨_, by decide +kernel, call_list_of, a, xs, rfl, h1, fun p hp => new_lst E h2 hp k⟩
          · cases hop
        · split at hop
          · rename_i _ _ _ _ hf
            subst hf
            refine .inl ⟨"all", ?_⟩
            split at hop
            · obtain ⟨b, e1, e2⟩ := Option.map_eq_some_iff.mp hop
              obtain ⟨a, xs, rfl, h1, h2, h3, _⟩ := sq (.inl rfl)
              obtain ⟨bs, rfl, eb⟩ := allBl_of h2 e1
              exact ⟨_, by decide +kernel, cr_all c.calm, a, bs, rfl, h3 rfl, sc e2.symm (dBl.mpr (by rw [eb]))⟩
            · cases hop
          · split at hop
            · rename_i _ _ _ _ _ hf
              subst hf
              refine .inl ⟨"repr", ?_⟩
              split at hop
              · rename_i hz
                cases hop
                simp only [Bool.and_eq_true, Bool.not_eq_true', decide_eq_true_eq] at hz
                exact ⟨_, by decide +kernel, call_repr c.room c.guard, v, toPy d, rfl, dp_of d v hx.any, hz.1.1.1, hz.1.1.2, hz.1.2, by rw [line_eq]; exact hz.2, sc rfl (dStr.mpr rfl)⟩
              · cases hop
            · cases hop
end
end Mx
set_option maxHeartbeats 400000
namespace Mx
open PySem L2

def AgOk (K : Frg) (Mo : AS) (C : CM) (H : Hp) (σ : St) : Ag → V → Prop
  | .val d, v => DOk K (MM Mo C none) H d v
  | .slot i, v => ∃ a, σ[i]? = some (some (.ref a)) ∧ v = .ref a
def AgsOk (K : Frg) (Mo : AS) (C : CM) (H : Hp) (σ : St) : List Ag → List V → Prop
  | [], vs => vs = []
  | a :: as, vs => ∃ v r, vs = v :: r ∧ AgOk K Mo C H σ a v ∧ AgsOk K Mo C H σ as r
section
variable {K : Frg} {Mo : AS} {C C' : CM} {H H' : Hp} {σ : St} {ρ : Rho} {np : Nat}
theorem AgOk.mov (h : Mov (MM Mo C none) H (MM Mo C' none) H') {a : Ag} {v : V} (q : AgOk K Mo C H σ a v) : AgOk K Mo C' H' σ a v := by
  cases a with
  | val d => exact DOk.mov h d v q
  | slot i => exact q
theorem AgsOk.mov (h : Mov (MM Mo C none) H (MM Mo C' none) H') : ∀ {as : List Ag} {vs : List V}, AgsOk K Mo C H σ as vs → AgsOk K Mo C' H' σ as vs
  | [], _, q => q
  | a :: as, _, ⟨v, r, e, q1, q2⟩ => ⟨v, r, e, q1.mov h, AgsOk.mov h q2⟩
theorem AgsOk.len : ∀ {as : List Ag} {vs : List V}, AgsOk K Mo C H σ as vs → vs.length = as.length
  | [], _, q => by cases q; rfl
  | a :: as, _, ⟨v, r, rfl, q1, q2⟩ => by simp [AgsOk.len q2]
theorem AgsOk.get : ∀ {as : List Ag} {vs : List V} {j : Nat} {a : Ag}, AgsOk K Mo C H σ as vs → as[j]? = some a → ∃ v, vs[j]? = some v ∧ AgOk K Mo C H σ a v
  | [], _, _, _, _, e => by simp at e
  | _ :: as, _, 0, a, ⟨v, r, rfl, q1, q2⟩, e => by simp at e; subst e; exact ⟨v, rfl, q1⟩
  | _ :: as, _, j + 1, a, ⟨v, r, rfl, q1, q2⟩, e => by
    obtain ⟨u, h1, h2⟩ := AgsOk.get (j := j) q2 (by simpa using e)
    exact ⟨u, by simpa using h1, h2⟩
theorem AgsOk.app : ∀ {as bs : List Ag} {vs ws : List V}, AgsOk K Mo C H σ as vs → AgsOk K Mo C H σ bs ws → AgsOk K Mo C H σ (as ++ bs) (vs ++ ws)
  | [], _, _, _, q, q' => by cases q; exact q'
  | a :: as, _, _, _, ⟨v, r, rfl, q1, q2⟩, q' => ⟨v, _, rfl, q1, AgsOk.app q2 q'⟩
theorem AgsOk.vals : ∀ {ds : List D} {vs : List V}, DsOk K (MM Mo C none) H ds vs → AgsOk K Mo C H σ (ds.map .val) vs
  | [], _, q => by unfold DsOk at q; exact q
  | d :: ds, _, q => by
    unfold DsOk at q
    obtain ⟨x, r, rfl, t, u⟩ := q
    exact ⟨x, r, rfl, t, AgsOk.vals u⟩
theorem AgsOk.pick {p : Str} : ∀ {ks : List Str} {as : List Ag} {vs : List V}, AgsOk K Mo C H σ as vs → AgsOk K Mo C H σ (Mx.pick ks as p) (Mx.pick ks vs p)
  | [], as, vs, _ => by cases as <;> cases vs <;> exact rfl
  | k :: ks, [], vs, q => by cases q; exact rfl
  | k :: ks, a :: as, _, ⟨v, r, rfl, q1, q2⟩ => by
    unfold Mx.pick
    by_cases h : k = p
    · rw [if_pos h, if_pos h]; exact ⟨v, [], rfl, q1, rfl⟩
    · rw [if_neg h, if_neg h]; exact AgsOk.pick q2
theorem AgsOk.mix {ks : List Str} {bs : List Ag} {ws : List V} (hb : AgsOk K Mo C H σ bs ws) : ∀ {ps : List Str} {as : List Ag} {vs : List V}, AgsOk K Mo C H σ as vs → AgsOk K Mo C H σ (mixA ps ks as bs) (mixA ps ks vs ws)
  | [], _, _, _ => by unfold mixA; exact rfl
  | p :: ps, [], vs, q => by
    cases q
    unfold mixA
    exact AgsOk.app (AgsOk.pick hb) (AgsOk.mix hb (as := []) rfl)
  | p :: ps, a :: as, _, ⟨v, r, rfl, q1, q2⟩ => by
    unfold mixA
    exact ⟨v, _, rfl, q1, AgsOk.mix hb q2⟩
end
theorem Vals.pickV {p : Str} : ∀ {ks : List Str} {zs : List V} {ws : List Value}, Vals zs ws → Vals (pick ks zs p) (pick ks ws p)
  | [], zs, ws, _ => by cases zs <;> cases ws <;> exact .nil
  | k :: ks, _, _, .nil => .nil
  | k :: ks, _, _, .cons r t => by
    unfold pick
    by_cases h : k = p
    · rw [if_pos h, if_pos h]; exact .cons r .nil
    · rw [if_neg h, if_neg h]; exact Vals.pickV t
theorem Vals.mixV {ks : List Str} {zs : List V} {ws : List Value} (hz : Vals zs ws) : ∀ {ps : List Str} {vs : List V} {us : List Value}, Vals vs us → Vals (mixA ps ks vs zs) (mixA ps ks us ws)
  | [], _, _, _ => by unfold mixA; exact .nil
  | p :: ps, _, _, .nil => by
    unfold mixA
    exact (Vals.pickV hz).append (Vals.mixV hz .nil)
  | p :: ps, _, _, .cons r t => by
    unfold mixA
    exact .cons r (Vals.mixV hz t)

def tAg (np : Nat) (K : Frg) (F : Rho → Option (List Ag × Rho)) : TA := fun σ H Q => ∃ Mo C ρ d ρ', Eok K Mo C none H σ ρ ∧ F ρ = some (d, ρ') ∧
  ∀ C' v H', Eok K Mo C' none H' σ ρ' → AgsOk K Mo C' H' σ d v → Stp np C H C' none H' → Q v H'
theorem evAw_star {Γ : Gam} {ev : Expr → Rho → Option (En × Rho)} : ∀ {es : List Expr} {ms : List Bool} {ρ : Rho} {r}, evAw Γ ev ms es ρ = some r → ∀ e ∈ es, isStar e = false
  | [], _, _, _, _, _, h => (nomatch h)
  | e :: es, ms, ρ, r, h, x, hx => by
    unfold evAw at h
    split at h
    · cases h
    · rename_i ns
      rcases List.mem_cons.mp hx with rfl | hx
      · simpa using ns
      · split at h
        · obtain ⟨q, h3, _⟩ := Option.bind_eq_some_iff.mp h
          exact evAw_star h3 x hx
        · obtain ⟨p, _, h2⟩ := Option.bind_eq_some_iff.mp h
          obtain ⟨q, h3, _⟩ := Option.bind_eq_some_iff.mp h2
          exact evAw_star h3 x hx
section
variable {Γ : Gam} {X : Cx} {ev' : Expr → Rho → Option (En × Rho)}
theorem evAw_ok (c : CxOk Γ X) (hev : ∀ e, PE X e (tD Γ.np X.K (ev' e))) : ∀ (ms : List Bool) (es : List Expr), PA X es (tAg Γ.np X.K (evAw Γ ev' ms es))
  | ms, [] => by
    refine PA.of fun σ H Q h => ⟨_, pa_nil, ?_⟩
    obtain ⟨Mo, C, ρ, d, ρ', E, hF, k⟩ := h
    cases hF
    exact k C [] H E rfl Stp.refl
  | ms, e :: es => by
    refine PA.of fun σ H Q h => ?_
    obtain ⟨Mo, C, ρ, d, ρ', E, hF, k⟩ := h
    have ns := evAw_star hF e List.mem_cons_self
    unfold evAw at hF
    rw [if_neg (by simp [ns])] at hF
    split at hF
    · rename_i i hi
      obtain ⟨q, h3, h4⟩ := Option.bind_eq_some_iff.mp hF
      cases h4
      have hi : celOf Γ e ρ = some i := by
        split at hi
        · exact hi
        · cases hi
      obtain ⟨pe, l, hl⟩ := celOf_ok c hi
      obtain ⟨a, xs, _, h2, _⟩ := E.cel i l hl
      refine ⟨_, pa_cons pe (evAw_ok c hev ms.tail es) (star_no ns), _, h2, ?_⟩
      refine ⟨Mo, C, ρ, q.1, q.2, E, h3, fun C2 vs H2 E2 d2 s2 => ?_⟩
      exact k C2 _ H2 E2 ⟨_, vs, rfl, ⟨a, h2, rfl⟩, d2⟩ s2
    · obtain ⟨p, h1, h2⟩ := Option.bind_eq_some_iff.mp hF
      obtain ⟨q, h3, h4⟩ := Option.bind_eq_some_iff.mp h2
      cases h4
      refine ⟨_, pa_cons (hev e).toI (evAw_ok c hev ms.tail es) (star_no ns), ?_⟩
      refine ⟨Mo, C, ρ, p.1, p.2, E, h1, fun C1 v H1 E1 d1 s1 => ?_⟩
      refine ⟨Mo, C1, p.2, q.1, q.2, E1, h3, fun C2 vs H2 E2 d2 s2 => ?_⟩
      exact k C2 (v :: vs) H2 E2 ⟨v, vs, rfl, DOk.mov (s2.mov E1.out) _ _ d1, d2⟩ (s1.trans s2)
theorem evK_ok (hev : ∀ e, PE X e (tD Γ.np X.K (ev' e))) : ∀ kws : List Keyword, PK X kws (tL Γ.np X.K (evLw ev' (kwExprs kws)))
  | [] => by
    refine ⟨fun pos pins s σ H Q I h => pk_nil.run pos pins s σ H Q I ?_⟩
    obtain ⟨Mo, C, ρ, d, ρ', E, hF, k⟩ := h
    cases hF
    exact k C [] H E DsOk.nil Stp.refl
  | ⟨nm, e, kp⟩ :: r => by
    refine ⟨fun pos pins s σ H Q I h => ?_⟩
    obtain ⟨Mo, C, ρ, d, ρ', E, hF, k⟩ := h
    have ns := evLw_star hF e List.mem_cons_self
    unfold kwExprs evLw at hF
    rw [if_neg (by simp [ns])] at hF
    obtain ⟨p, h1, h2⟩ := Option.bind_eq_some_iff.mp hF
    obtain ⟨q, h3, h4⟩ := Option.bind_eq_some_iff.mp h2
    cases h4
    refine (pk_cons (nm := nm) (kpos := kp) (hev e).toI (evK_ok hev r)).run pos pins s σ H Q I ?_
    refine ⟨Mo, C, ρ, p.1, p.2, E, h1, fun C1 v H1 E1 d1 s1 => ?_⟩
    refine ⟨Mo, C1, p.2, q.1, q.2, E1, h3, fun C2 vs H2 E2 d2 s2 => ?_⟩
    exact k C2 (v :: vs) H2 E2 (DsOk.cons (DOk.mov (s2.mov E1.out) _ _ d1) d2) (s1.trans s2)
end
theorem kw_names : ∀ {kws : List Keyword} {ks : List Str} {pos : Pos} {env : Env}, kwNames kws = some ks →
    (backToKw pos (keywordEach kws env)).all (·.1.isSome) = true ∧ (backToKw pos (keywordEach kws env)).filterMap (·.1) = ks ∧ (backToKw pos (keywordEach kws env)).any (·.1.isNone) = false ∧ ks.length = kws.length
  | [], ks, _, _, h => by cases h; exact ⟨rfl, rfl, rfl, rfl⟩
  | ⟨none, e, kp⟩ :: r, ks, _, _, h => by unfold kwNames at h; cases h
  | ⟨some x, e, kp⟩ :: r, ks, pos, env, h => by
    unfold kwNames at h
    obtain ⟨q, h1, h2⟩ := Option.map_eq_some_iff.mp h
    subst h2
    obtain ⟨a1, a2, a3, a4⟩ := kw_names (pos := pos) (env := env) h1
    refine ⟨?_, ?_, ?_, by simp [a4]⟩
    · show (true && (backToKw pos (keywordEach r env)).all (·.1.isSome)) = true
      rw [a1]; rfl
    · show x :: (backToKw pos (keywordEach r env)).filterMap (·.1) = x :: q
      rw [a2]
    · show (false || (backToKw pos (keywordEach r env)).any (·.1.isNone)) = false
      rw [a3]; rfl

/-! ## a def of one's own is called -/
theorem ensOf_get : ∀ {ρ : Rho} {ags : List Ag} {ens : List En}, ensOf ρ ags = some ens → ens.length = ags.length ∧ ∀ (j : Nat) (a : Ag), ags[j]? = some a → ∃ e, ens[j]? = some e ∧ enOf ρ a = some e
  | ρ, [], ens, h => by cases h; exact ⟨rfl, fun j a e => by simp at e⟩
  | ρ, a :: r, ens, h => by
    unfold ensOf at h
    obtain ⟨e, h1, h2⟩ := Option.bind_eq_some_iff.mp h
    obtain ⟨es, h3, h4⟩ := Option.bind_eq_some_iff.mp h2
    cases h4
    obtain ⟨q1, q2⟩ := ensOf_get h3
    refine ⟨by simp [q1], fun j b e' => ?_⟩
    cases j with
    | zero => simp at e'; subst e'; exact ⟨e, rfl, h1⟩
    | succ j =>
      obtain ⟨e2, z1, z2⟩ := q2 j b (by simpa using e')
      exact ⟨e2, by simpa using z1, z2⟩
theorem mem_slots : ∀ {ags : List Ag} {i : Nat}, i ∈ slotsOf ags ↔ ∃ (j : Nat), ags[j]? = some (Ag.slot i)
  | [], i => by simp [slotsOf]
  | .val d :: r, i => by
    unfold slotsOf
    rw [mem_slots]
    exact ⟨fun ⟨j, h⟩ => ⟨j + 1, by simpa using h⟩, fun ⟨j, h⟩ => by
      cases j with
      | zero => simp at h
      | succ j => exact ⟨j, by simpa using h⟩⟩
  | .slot k :: r, i => by
    unfold slotsOf
    rw [List.mem_cons, mem_slots]
    constructor
    · rintro (rfl | ⟨j, h⟩)
      · exact ⟨0, rfl⟩
      · exact ⟨j + 1, by simpa using h⟩
    · rintro ⟨j, h⟩
      cases j with
      | zero => simp at h; exact .inl h.symm
      | succ j => exact .inr ⟨j, by simpa using h⟩
theorem slot_inj : ∀ {ags : List Ag} {i j k : Nat}, nodupB (slotsOf ags) = true → ags[j]? = some (Ag.slot i) → ags[k]? = some (Ag.slot i) → j = k
  | [], _, _, _, _, h, _ => by simp at h
  | .val d :: r, i, j, k, nd, h, h' => by
    unfold slotsOf at nd
    cases j with
    | zero => simp at h
    | succ j => cases k with
      | zero => simp at h'
      | succ k => rw [slot_inj (j := j) (k := k) nd (by simpa using h) (by simpa using h')]
  | .slot m :: r, i, j, k, nd, h, h' => by
    unfold slotsOf nodupB at nd
    simp only [Bool.and_eq_true, Bool.not_eq_true'] at nd
    have nm : m ∉ slotsOf r := by
      intro z
      have := List.contains_iff_mem.mpr z
      rw [nd.1] at this; cases this
    cases j with
    | zero =>
      simp at h
      subst h
      cases k with
      | zero => rfl
      | succ k => exact (nm (mem_slots.mpr ⟨k, by simpa using h'⟩)).elim
    | succ j => cases k with
      | zero =>
        simp at h'
        subst h'
        exact (nm (mem_slots.mpr ⟨j, by simpa using h⟩)).elim
      | succ k => rw [slot_inj (j := j) (k := k) nd.2 (by simpa using h) (by simpa using h')]
theorem putBack_is : ∀ {ags : List Ag} {outs : List (Option (List D))} {ρ ρ' : Rho}, putBack ρ ags outs = some ρ' → nodupB (slotsOf ags) = true →
    ρ'.length = ρ.length ∧ outs.length = ags.length ∧ (∀ (i : Nat), i ∉ slotsOf ags → ρ'[i]? = ρ[i]?) ∧ (∀ (j : Nat) (d : D), ags[j]? = some (Ag.val d) → outs[j]? = some none) ∧
      ∀ (j i : Nat), ags[j]? = some (Ag.slot i) → ∃ l, outs[j]? = some (some l) ∧ (i < ρ.length → ρ'[i]? = some (some (.cel l)))
  | [], [], ρ, ρ', h, _ => by cases h; exact ⟨rfl, rfl, fun _ _ => rfl, fun j d e => by simp at e, fun j i e => by simp at e⟩
  | [], _ :: _, ρ, ρ', h, _ => by unfold putBack at h; cases h
  | .val d :: r, [], ρ, ρ', h, _ => by unfold putBack at h; cases h
  | .val d :: r, some l :: os, ρ, ρ', h, _ => by unfold putBack at h; cases h
  | .val d :: r, none :: os, ρ, ρ', h, nd => by
    unfold putBack at h
    unfold slotsOf at nd
    obtain ⟨a1, a2, a3, a4, a5⟩ := putBack_is h nd
    refine ⟨a1, by simp [a2], fun i hi => a3 i (by unfold slotsOf at hi; exact hi), fun j d' e => ?_, fun j i e => ?_⟩
    · cases j with
      | zero => rfl
      | succ j => simpa using a4 j d' (by simpa using e)
    · cases j with
      | zero => simp at e
      | succ j =>
        obtain ⟨l, z1, z2⟩ := a5 j i (by simpa using e)
        exact ⟨l, by simpa using z1, z2⟩
  | .slot m :: r, [], ρ, ρ', h, _ => by unfold putBack at h; cases h
  | .slot m :: r, none :: os, ρ, ρ', h, _ => by unfold putBack at h; cases h
  | .slot m :: r, some l :: os, ρ, ρ', h, nd => by
    unfold putBack at h
    unfold slotsOf nodupB at nd
    simp only [Bool.and_eq_true, Bool.not_eq_true'] at nd
    have nm : m ∉ slotsOf r := by
      intro z
      have := List.contains_iff_mem.mpr z
      rw [nd.1] at this; cases this
    obtain ⟨a1, a2, a3, a4, a5⟩ := putBack_is h nd.2
    refine ⟨by simpa using a1, by simp [a2], fun i hi => ?_, fun j d' e => ?_, fun j i e => ?_⟩
    · unfold slotsOf at hi
      simp only [List.mem_cons, not_or] at hi
      rw [a3 i hi.2, List.getElem?_set_ne (Ne.symm hi.1)]
    · cases j with
      | zero => simp at e
      | succ j => simpa using a4 j d' (by simpa using e)
    · cases j with
      | zero =>
        simp at e
        subst e
        exact ⟨l, rfl, fun hl => by rw [a3 m nm, List.getElem?_set_self hl]⟩
      | succ j =>
        obtain ⟨l', z1, z2⟩ := a5 j i (by simpa using e)
        exact ⟨l', by simpa using z1, fun hl => z2 (by simpa using hl)⟩
end Mx
set_option maxHeartbeats 400000
namespace Mx
open PySem L2

theorem enOf_slot {ρ : Rho} {i : Nat} {en : En} (h : enOf ρ (.slot i) = some en) : ∃ l, en = .cel l ∧ ρ[i]? = some (some (.cel l)) := by
  have h' : (match ρ[i]? with
    | some (some (En.cel l)) => some (En.cel l)
    | _ => none) = some en := h
  cases e : ρ[i]? with
  | none => rw [e] at h'; cases h'
  | some o => cases o with
    | none => rw [e] at h'; cases h'
    | some x => cases x with
      | imm d => rw [e] at h'; cases h'
      | cel l => rw [e] at h'; cases h'; exact ⟨l, rfl, rfl⟩
section
variable {K : Frg} {Mo : AS} {C : CM} {H : Hp} {σ : St} {ρ ρ' : Rho} {np : Nat} {Q : VK}
theorem own_run {ps : List Str} {sem : List En → Option (En × List (Option (List D)))} {ags : List Ag} {ens : List En} {vs : List V} {e : En} {outs : List (Option (List D))}
    (E : Eok K Mo C none H σ ρ) (hA : AgsOk K Mo C H σ ags vs) (nd : nodupB (slotsOf ags) = true) (he : ensOf ρ ags = some ens) (hl : ens.length = ps.length) (hr : sem ens = some (e, outs)) (hb : putBack ρ ags outs = some ρ')
    (k : ∀ C' r v H', Eok K Mo C' r H' σ ρ' → EnOk K Mo C' r H' v e → Stp np C H C' r H' → Q v H') : spF K ps sem vs H Q E0 := by
  obtain ⟨e1, e2⟩ := ensOf_get he
  obtain ⟨b1, b2, b3, b4, b5⟩ := putBack_is hb nd
  have vl := hA.len
  refine ⟨by omega, ?_⟩
  let Mc : AS := fun a => Mo a ∨ ∃ i, C i = some a ∧ i ∉ slotsOf ags
  let Cc : CM := fun j => match ags[j]? with
    | some (.slot i) => C i
    | _ => none
  have cc : ∀ {j : Nat} {a : Addr}, Cc j = some a → ∃ i, ags[j]? = some (.slot i) ∧ C i = some a := by
    intro j a h
    show ∃ i, _
    simp only [Cc] at h
    split at h
    · rename_i i hi
      exact ⟨i, hi, h⟩
    · cases h
  have cs : ∀ {j i : Nat}, ags[j]? = some (.slot i) → Cc j = C i := by
    intro j i h
    simp only [Cc, h]
  have mm : ∀ (r : Option Addr) (a : Addr), MM Mc Cc r a ↔ MM Mo C r a := by
    intro r a
    constructor
    · rintro ((m | ⟨i, m, _⟩) | ⟨j, m⟩ | m)
      · exact .inl m
      · exact .inr (.inl ⟨i, m⟩)
      · obtain ⟨i, _, z⟩ := cc m
        exact .inr (.inl ⟨i, z⟩)
      · exact .inr (.inr m)
    · rintro (m | ⟨i, m⟩ | m)
      · exact .inl (.inl m)
      · by_cases hi : i ∈ slotsOf ags
        · obtain ⟨j, hj⟩ := mem_slots.mp hi
          exact .inr (.inl ⟨j, by rw [cs hj]; exact m⟩)
        · exact .inl (.inr ⟨i, m, hi⟩)
      · exact .inr (.inr m)
  have mvTo : ∀ (r : Option Addr) (G : Hp), Mov (MM Mo C r) G (MM Mc Cc r) G := fun r G a o h n => ⟨h, fun z => n ((mm r a).mp z)⟩
  have mvBack : ∀ (r : Option Addr) (G : Hp), Mov (MM Mc Cc r) G (MM Mo C r) G := fun r G a o h n => ⟨h, fun z => n ((mm r a).mpr z)⟩
  -- what stands at a place of the list of values
  have at_ : ∀ {j : Nat} {en : En}, ens[j]? = some en → ∃ a, ags[j]? = some a ∧ enOf ρ a = some en := by
    intro j en h
    have hj : j < ags.length := by rw [← e1]; exact (List.getElem?_eq_some_iff.mp h).1
    obtain ⟨en', q1, q2⟩ := e2 j ags[j] (by simp [hj])
    rw [h] at q1
    cases q1
    exact ⟨ags[j], by simp [hj], q2⟩
  have celAt : ∀ {j : Nat} {l : List D}, ens[j]? = some (.cel l) → ∃ i, ags[j]? = some (.slot i) ∧ ρ[i]? = some (some (.cel l)) := by
    intro j l h
    obtain ⟨a, q1, q2⟩ := at_ h
    cases a with
    | val d => cases q2
    | slot i =>
      obtain ⟨l', z1, z2⟩ := enOf_slot q2
      cases z1
      exact ⟨i, q1, z2⟩
  have slotEn : ∀ {j i : Nat}, ags[j]? = some (.slot i) → ∃ l, ρ[i]? = some (some (.cel l)) ∧ ens[j]? = some (.cel l) := by
    intro j i h
    obtain ⟨en, q1, q2⟩ := e2 j _ h
    obtain ⟨l', z1, z2⟩ := enOf_slot q2
    subst z1
    exact ⟨l', z2, q1⟩
  have EC : Eok K Mc Cc none H (vs.map some) (ens.map some) := by
    refine ⟨by simp [vl, e1], fun j d ed => ?_, fun j l ed => ?_, fun j a h => ?_, fun j j' a h h' => ?_, fun a h => ?_, fun j a h => ?_, fun _ z => (nomatch z)⟩
    · have ed' : ens[j]? = some (.imm d) := by
        rw [List.getElem?_map] at ed
        cases z : ens[j]? with
        | none => rw [z] at ed; cases ed
        | some x => rw [z] at ed; cases ed; rfl
      obtain ⟨a, q1, q2⟩ := at_ ed'
      cases a with
      | slot i =>
        obtain ⟨l', z1, z2⟩ := enOf_slot q2
        cases z1
      | val d' =>
        cases q2
        obtain ⟨v, z1, z2⟩ := hA.get q1
        exact ⟨v, by rw [List.getElem?_map, z1]; rfl, DOk.mov (mvTo none H) _ _ z2⟩
    · have ed' : ens[j]? = some (.cel l) := by
        rw [List.getElem?_map] at ed
        cases z : ens[j]? with
        | none => rw [z] at ed; cases ed
        | some x => rw [z] at ed; cases ed; rfl
      obtain ⟨i, q1, q2⟩ := celAt ed'
      obtain ⟨a, xs, h1, h2, h3, h4⟩ := E.cel i l q2
      obtain ⟨v, z1, a', z2, z3⟩ := hA.get q1
      rw [h2] at z2
      cases z2
      exact ⟨a, xs, by rw [cs q1]; exact h1, by rw [List.getElem?_map, z1, z3]; rfl, h3, DsOk.mov (mvTo none H) _ _ h4⟩
    · obtain ⟨i, q1, q2⟩ := cc h
      obtain ⟨l, z1, z2⟩ := slotEn q1
      exact ⟨l, by rw [List.getElem?_map, z2]; rfl⟩
    · obtain ⟨i, q1, q2⟩ := cc h
      obtain ⟨i', q1', q2'⟩ := cc h'
      have := E.inj i i' a q2 q2'
      subst this
      exact slot_inj nd q1 q1'
    · rcases h with h | ⟨i, h, _⟩
      · exact E.out a h
      · obtain ⟨xs, z⟩ := E.trk h
        exact ⟨_, z⟩
    · obtain ⟨i, q1, q2⟩ := cc h
      rintro (m | ⟨i', m, hn⟩)
      · exact E.apart i a q2 m
      · have := E.inj i' i a m q2
        subst this
        exact hn (mem_slots.mpr ⟨j, q1⟩)
  refine ⟨Mc, Cc, ens, e, outs, EC, hr, fun r v H' E' o' S' => ?_⟩
  have S : Stp np C H C r H' := by
    refine ⟨fun a o h n => S'.keep a o h fun j hj => ?_, fun i a h => .inl ⟨i, h⟩, fun a h => ?_, fun _ _ _ h => h⟩
    · obtain ⟨i, _, q⟩ := cc hj
      exact n i q
    · rcases S'.res a h with ⟨j, hj⟩ | hj
      · obtain ⟨i, _, q⟩ := cc hj
        exact .inl ⟨i, q⟩
      · exact .inr hj
  have M := S.mov (r := none) E.out
  have en2 : ∀ {j : Nat} {l : List D}, outs[j]? = some (some l) → j < ags.length → ((ens.zip outs).map fun p => some (match p.2 with | some l => En.cel l | none => p.1))[j]? = some (some (.cel l)) := by
    intro j l h hj
    have h1 : ens[j]? = some ens[j] := by simp [e1, hj]
    rw [List.getElem?_map, (List.getElem?_zip_eq_some (z := (ens[j], some l))).mpr ⟨h1, h⟩]
    rfl
  refine k C r v H' ⟨by rw [b1]; exact E.len, fun i d ed => ?_, fun i l ed => ?_, fun i a h => ?_, E.inj, fun a h => ?_, E.apart, fun a h => ?_⟩ ?_ S
  · by_cases hi : i ∈ slotsOf ags
    · obtain ⟨j, hj⟩ := mem_slots.mp hi
      obtain ⟨l0, z1, _⟩ := slotEn hj
      obtain ⟨l, _, q⟩ := b5 j i hj
      rw [q (List.getElem?_eq_some_iff.mp z1).1] at ed
      cases ed
    · rw [b3 i hi] at ed
      obtain ⟨v', q1, q2⟩ := E.imm i d ed
      exact ⟨v', q1, DOk.mov M d v' q2⟩
  · by_cases hi : i ∈ slotsOf ags
    · obtain ⟨j, hj⟩ := mem_slots.mp hi
      obtain ⟨l0, z1, _⟩ := slotEn hj
      obtain ⟨l1, w1, q⟩ := b5 j i hj
      rw [q (List.getElem?_eq_some_iff.mp z1).1] at ed
      cases ed
      obtain ⟨a, xs, h1, h2, h3, h4⟩ := E'.cel j l (en2 w1 (List.getElem?_eq_some_iff.mp hj).1)
      obtain ⟨a0, xs0, g1, g2, _, _⟩ := E.cel i l0 z1
      rw [cs hj] at h1
      rw [g1] at h1
      cases h1
      exact ⟨_, xs, g1, g2, h3, DsOk.mov (mvBack r H') _ xs h4⟩
    · rw [b3 i hi] at ed
      obtain ⟨a, xs, h1, h2, h3, h4⟩ := E.cel i l ed
      refine ⟨a, xs, h1, h2, S'.keep a _ h3 fun j hj => ?_, DsOk.mov M l xs h4⟩
      obtain ⟨i', q1, q2⟩ := cc hj
      have := E.inj i' i a q2 h1
      subst this
      exact hi (mem_slots.mpr ⟨j, q1⟩)
  · obtain ⟨l, q⟩ := E.only i a h
    by_cases hi : i ∈ slotsOf ags
    · obtain ⟨j, hj⟩ := mem_slots.mp hi
      obtain ⟨l', _, q'⟩ := b5 j i hj
      exact ⟨l', q' (List.getElem?_eq_some_iff.mp q).1⟩
    · exact ⟨l, by rw [b3 i hi]; exact q⟩
  · obtain ⟨o, q⟩ := E.out a h
    exact ⟨o, S'.keep a o q fun j hj => (EC.apart j a hj) (.inl h)⟩
  · obtain ⟨n1, n2⟩ := E'.rz a h
    refine ⟨fun i hi => ?_, fun m => n2 (.inl m)⟩
    by_cases hs : i ∈ slotsOf ags
    · obtain ⟨j, hj⟩ := mem_slots.mp hs
      exact n1 j (by rw [cs hj]; exact hi)
    · exact n2 (.inr ⟨i, hi, hs⟩)
  · cases e with
    | imm d => exact ⟨o'.1, DOk.mov (mvBack r H') d v o'.2⟩
    | cel l =>
      obtain ⟨a, xs, h1, h2, h3, h4⟩ := o'
      exact ⟨a, xs, h1, h2, h3, DsOk.mov (mvBack r H') l xs h4⟩
end

section
variable {Γ : Gam} {X : Cx} {ev' : Expr → Rho → Option (En × Rho)}
/-- the callee runs -/
theorem run_own {x : Str} {F : Fn} (c : CxOk Γ X) (hF : OwnFn X x F) {pins : List (Addr × Obj)} {σ : St} {H : Hp} {s : Shared} {Q : VK} {f : Addr} {fd : FuncData} {us ws : List Value} {vs zs : List V} {ks : List Str}
    {k : Nat} (g : GOk X.prog X.w X.K X.mg X.base k f fd F.ps (spF X.K F.ps F.run)) (hr : Room k X.A)
    (hb : ∀ (s : Shared) (us ws : List Value), X.K.In s.heap → us.length = vs.length → ws.length = ks.length → (mixA F.ps ks us ws).length = F.ps.length → BindsTo s fd ⟨us, ks.zip ws⟩ (F.ps.zip (mixA F.ps ks us ws)))
    (I : Inv X pins σ H s) (r : Vals vs us) (rz : Vals zs ws) (hz : zs.length = ks.length) (h : spF X.K F.ps F.run (mixA F.ps ks vs zs) H Q E0) :
    wpAny (model X.prog X.w) X.A (call (.ref f) us (ks.zip ws)) (EP X pins σ Q) X.xe s := by
  have r2 : Vals (mixA F.ps ks vs zs) (mixA F.ps ks us ws) := Vals.mixV rz r
  have hl : (mixA F.ps ks us ws).length = F.ps.length := by rw [← r2.length]; exact h.1
  refine wpAny_call (codeAny_mono (g.run X.A X.stack s H ⟨us, ks.zip ws⟩ (mixA F.ps ks us ws) (mixA F.ps ks vs zs) Q hr c.guard I.env0 (hb s us ws I.kIn r.length.symm (by rw [← rz.length]; exact hz) hl) r2 h) fun rr s' hq => ?_)
  cases rr with
  | error e => exact (show False from hq).elim
  | ok fl =>
    cases fl with
    | next => exact (show False from hq).elim
    | brk => exact (show False from hq).elim
    | cont => exact (show False from hq).elim
    | ret u => exact I.after hq
theorem own_pe (c : CxOk Γ X) (hev : ∀ e, PE X e (tD Γ.np X.K (ev' e))) {x : Str} {p pos : Pos} {args : List Expr} {kws : List Keyword} {F : Fn} (hF : OwnFn X x F) (hg : Gl X x) (ok : okN x = true) {σ : St} {H : Hp} {Q : VK}
    {Mo : AS} {C : CM} {ρ ρ1 ρ2 ρ' : Rho} {ags : List Ag} {ks : List Str} {ds : List D} {ens : List En} {e : En} {outs : List (Option (List D))}
    (E : Eok X.K Mo C none H σ ρ) (h1 : evAw Γ ev' F.cm args ρ = some (ags, ρ1)) (h2 : kwNames kws = some ks) (h3 : evLw ev' (kwExprs kws) ρ1 = some (ds, ρ2)) (nd : nodupB (slotsOf (mixA F.ps ks ags (ds.map .val))) = true)
    (hs : (ags.length, ks) ∈ F.shapes) (he : ensOf ρ2 (mixA F.ps ks ags (ds.map .val)) = some ens) (hl : ens.length = F.ps.length) (hr : F.run ens = some (e, outs)) (hb : putBack ρ2 (mixA F.ps ks ags (ds.map .val)) outs = some ρ')
    (k : ∀ C' r v H', Eok X.K Mo C' r H' σ ρ' → EnOk X.K Mo C' r H' v e → Stp Γ.np C H C' r H' → Q v H') : ∃ t, PE X (.Call (.Name x p) args kws pos) t ∧ t σ H Q := by
  obtain ⟨f, fd, kk, g, hroom, hm, hk, hbind⟩ := hF.ok
  obtain ⟨kw1, kw2, kw3, kw4⟩ := kw_names (pos := pos) (env := X.env) h2
  obtain ⟨o1, o2, o3⟩ := okN_d ok
  have stars := evAw_star h1
  -- behind the arguments
  have fin : ∀ {pins : List (Addr × Obj)} {s1 s2 : Shared} {C1 : CM} {H1 : Hp} {vs : List V} {us : List Value}, Inv X pins σ H1 s1 → Vals vs us → Eok X.K Mo C1 none H1 σ ρ1 → AgsOk X.K Mo C1 H1 σ ags vs → Stp Γ.np C H C1 none H1 →
      ∀ pin2, pins = pin2 → wpAny (model X.prog X.w) X.A (evalAll ((backToKw pos (keywordEach kws X.env)).map (·.2))) (fun ws s₂ => X.K.In s₂.heap ∧ wpAny (model X.prog X.w) X.A (call (.ref f) us (((backToKw pos (keywordEach kws X.env)).filterMap (·.1)).zip ws)) (EP X pin2 σ Q) X.xe s₂) X.xe s1 := by
    intro pins s1 _ C1 H1 vs us I1 rv E1 A1 S1 pin2 hp
    subst hp
    refine thn ((evK_ok hev kws).run pos pins s1 σ H1 (fun zs H2 => ∃ C2, Eok X.K Mo C2 none H2 σ ρ2 ∧ AgsOk X.K Mo C2 H2 σ ags vs ∧ DsOk X.K (MM Mo C2 none) H2 ds zs ∧ Stp Γ.np C H C2 none H2) I1 ⟨Mo, C1, ρ1, ds, ρ2, E1, h3, fun C2 zs H2 E2 d2 S2 => ⟨C2, E2, AgsOk.mov (S2.mov E1.out) A1, d2, S1.trans S2⟩⟩) fun ws s2 hh => ?_
    obtain ⟨zs, H2, I2, rz, C2, E2, A2, d2, S2⟩ := hh
    refine ⟨I2.kIn, ?_⟩
    rw [kw2]
    have hmix := AgsOk.mix (ks := ks) (ps := F.ps) (AgsOk.vals (σ := σ) d2) A2
    have hzl : zs.length = ks.length := by
      rw [kw4, d2.len]
      have : ∀ {kws : List Keyword} {ds : List D} {ρ ρ' : Rho}, evLw ev' (kwExprs kws) ρ = some (ds, ρ') → ds.length = kws.length := by
        intro kws
        induction kws with
        | nil => intro ds ρ ρ' h; unfold kwExprs evLw at h; cases h; rfl
        | cons a r ih =>
          intro ds ρ ρ' h
          obtain ⟨nm, e, kp⟩ := a
          unfold kwExprs evLw at h
          split at h
          · cases h
          · obtain ⟨p, _, h2⟩ := Option.bind_eq_some_iff.mp h
            obtain ⟨q, h3, h4⟩ := Option.bind_eq_some_iff.mp h2
            cases h4
            simp [ih h3]
      exact this h3
    refine run_own c hF g hroom (vs := vs) (zs := zs) (fun s us ws hi h1 h2 h3 => hbind ags.length ks hs s us ws hi (by rw [h1, A2.len]) h2 h3) I2 rv rz hzl ?_
    exact own_run E2 hmix nd he hl hr hb fun C' r v H' E' o' S' => k C' r v H' E' o' (S2.trans S')
  refine ⟨fun σ' H' Q' => σ' = σ ∧ H' = H ∧ Q' = Q, ⟨fun pins s σ' H' Q' I hh => ?_⟩, rfl, rfl, rfl⟩
  obtain ⟨rfl, rfl, rfl⟩ := hh
  refine wpAny_Call_Name_kw (ld_glob I hg hm ?_ o1)
  cases args with
  | nil =>
    unfold evAw at h1
    cases h1
    refine PySem.W.callWith_KW0 (h₀ := X.base) I.ok.mod.kin hk kw1 (fin (s2 := s) I .nil E rfl Stp.refl _ rfl) ?_
    rw [kw3]; rfl
  | cons a r =>
    have sa := star_no (env := X.env) (es := r) (stars a List.mem_cons_self)
    refine PySem.W.callWith_KW (h₀ := X.base) I.ok.mod.kin hk kw1 (thn ((evAw_ok c hev F.cm (a :: r)).run pos pins s _ _ (fun vs H1 => ∃ C1, Eok X.K Mo C1 none H1 _ ρ1 ∧ AgsOk X.K Mo C1 H1 _ ags vs ∧ Stp Γ.np C _ C1 none H1) I ⟨Mo, C, ρ, ags, ρ1, E, h1, fun C1 vs H1 E1 A1 S1 => ⟨C1, E1, A1, S1⟩⟩) fun us s1 hh => ?_) ?_ sa
    · obtain ⟨vs, H1, I1, rv, C1, E1, A1, S1⟩ := hh
      exact fin (s2 := s) I1 rv E1 A1 S1 _ rfl
    · rw [kw3, plain_args stars]; rfl
end
end Mx
set_option maxHeartbeats 400000
/-! ## enumerate of a tuple -/
namespace Mx
open PySem PySem.Spec PyProof.Rows PySem.SeqAt L2
theorem meets_enum1 {v : Value} {o : Obj} {H : Heap → Prop} (B : Begins v o H) :
    Meets (Builtin.«enumerate.__new__» ⟨[.type "enumerate", v], []⟩) (fun _ R s => H s.heap ∧
      R (.ok (.ret (.ref (s.heap.push o).objs.size))) { s with heap := (s.heap.push o).push { cls := .type "enumerate", data := .fields #[.none, .bool false, .ref s.heap.objs.size, rawInt 0, .none, .none] } }) :=
  .of_wp fun prog w A R s h => by
    obtain ⟨hp, g, d, tk, os⟩ := s
    obtain ⟨h1, h⟩ := h
    have hsub := sub_enumerate
    have q1 : ∀ {A' : Around} {E : Value → Shared → Prop} {Q : Value → Shared → Prop}, Q (.ref hp.objs.size) ⟨hp.push o, g, d, tk, os⟩ → wpAny (model prog w) A' (pyIter v) Q E ⟨hp, g, d, tk, os⟩ :=
      fun q => B.iter prog w _ _ ⟨hp, g, d, tk, os⟩ _ h1 q
    wp_walk using q1
    refine wpAny_stack_any fun st => wpAny_pure ?_
    split
    · rename_i c _ _ _ _ _
      cases (c == Value.type "enumerate")
      · wp_walk using q1
        exact ⟨_, rfl, h⟩
      · wp_walk using q1
        exact ⟨_, rfl, h⟩
    · wp_walk using q1
      exact ⟨_, rfl, h⟩
theorem call_enum1 {prog : Program} {w : World} {A : Around} {E : Value → Shared → Prop} {s : Shared} {v : Value} {o : Obj} {H : Heap → Prop} {Q : Value → Shared → Prop} (B : Begins v o H) (h1 : H s.heap)
    (h : ∀ h', IsEnum h' (s.heap.objs.size + 1) s.heap.objs.size 0 .none → h'.get? s.heap.objs.size = some o → h'.objs.size = s.heap.objs.size + 2 →
      (∀ b o, s.heap.get? b = some o → h'.get? b = some o) → Q (.ref (s.heap.objs.size + 1)) { s with heap := h' }) :
    wpAny (model prog w) A (call (.type "enumerate") [v]) Q E s := by
  refine callType_new F.called_enumerate (by decide) (F.typeCall_enumerate_1 _) (F.newCall_enumerate_1 _) (fun obj => F.args_object_init_2 obj _) F.entry_enumerate_new
    (meets_enum1 B) ⟨h1, ?_⟩
  have hz : (s.heap.push o).objs.size = s.heap.objs.size + 1 := Heap.size_push ..
  show _ ∧ _
  rw [hz]
  have he : IsEnum ((s.heap.push o).push { cls := .type "enumerate", data := .fields #[.none, .bool false, .ref s.heap.objs.size, rawInt 0, .none, .none] }) (s.heap.objs.size + 1) s.heap.objs.size 0 .none := by
    have := Heap.get?_push_size (s.heap.push o) (o := { cls := .type "enumerate", data := .fields #[.none, .bool false, .ref s.heap.objs.size, rawInt 0, .none, .none] }) rfl
    rw [hz] at this; exact this
  exact ⟨⟨_, he, rfl⟩, h _ he (Heap.get?_push_of_some _ (Heap.get?_push_size _ B.free)) (by rw [Heap.size_push, hz]) fun b o x => Heap.get?_push_of_some _ (Heap.get?_push_of_some _ x)⟩

theorem enum_endT {prog : Program} {w : World} {A : Around} {E : Value → Shared → Prop} {s : Shared} {e it t : Addr} {i : Nat} {k : Int} {items : Array Value} {old : Value} {Q : Option Value → Shared → Prop} (hh : A.handled = none)
    (he : IsEnum s.heap e it k old) (hit : s.heap.IsTupleIter it t i) (ht : s.heap.IsTuple t items) (hi : items[i]? = none)
    (hQ : ∀ h', Heap.ExtBut it s.heap h' → Q none { s with heap := h' }) : wpAny (model prog w) A (pyNext (.ref e)) Q E s := by
  have hT : s.TypeIs (.ref e) "enumerate" := ⟨_, he, rfl⟩
  unfold pyNext
  refine wpAny_bind (wpAny_attempt (wpAny_callSpecial?_slot (name := Str.ofString "__next__") hT F.slot_enumerate_next
    (wpAny_call_entry F.slot_enumerate_next hT F.entry_enumerate_next ?_ (F.args_enumerate_next_1 _))))
  show wpAny _ _ (field (.ref e) 2 >>= _) _ _ _
  refine wpAny_bind (wpAny_field he rfl (x := .ref it) rfl ?_)
  refine wpAny_bind (wpAny_nextOf_tuple_end (A := A.in1) hh hit ht hi fun h' x he' hx' => ?_)
  obtain ⟨o, ho, hc⟩ := hx'
  refine wpAny_bind (wpAny_isInstance (T := "StopIteration") (b := true) ⟨o, ho, hc⟩ isSubtype_stop ?_)
  exact wpAny_pure (hQ _ he')
def IteT (K : PySem.W.Frag) (a : Addr) : It :=
  ⟨fun i H => ∃ (xs : List V) (x : V), SqT K H a xs ∧ xs[i]? = some x, fun i H v H' => ∃ T x, v = .ref T ∧ H T = none ∧ H' = upd H T (.tup [.int (i : Nat), x]) ∧ ∀ xs, SqT K H a xs → xs[i]? = some x, fun i H => ∃ xs : List V, SqT K H a xs ∧ xs.length ≤ i⟩
theorem turn_enumT {P : Program} {w : World} {K : PySem.W.Frag} {elts : List Expr} {kk : Nat} {tpos : Pos} (a e it : Addr) (ha : a ≠ it) (hae : a ≠ e) :
    Turn P w K (.Tuple elts kk tpos) (IteT K a) [e, it] e (fun i h => (∃ old, IsEnum h e it ((i : Nat) : Int) old) ∧ h.IsTupleIter it a i ∧ e ≠ it) where
  mem := by simp
  obj := fun i h st b hb => by
    obtain ⟨⟨old, he⟩, ⟨o, ho, hc, hd⟩, _⟩ := st
    have e' : b = e ∨ b = it := by simpa using hb
    rcases e' with z | z
    · rw [z]; exact ⟨_, he, fun v q => nomatch q⟩
    · rw [z]; exact ⟨o, ho, fun v q => by rw [hd] at q; cases q⟩
  keep := fun i h h' st k => let ⟨⟨old, he⟩, hi, hne⟩ := st; ⟨⟨old, k e (by simp) _ he⟩, hi.at fun o q => k it (by simp) o q, hne⟩
  item := by
    intro X hP hw hK hc i pins s σ H E I hf st hg
    subst hP hw hK
    obtain ⟨⟨old, he⟩, hit, hne⟩ := st
    obtain ⟨xs, x, hq, hx⟩ := hg
    obtain ⟨its, rv, p, hz⟩ := I.tuple hq
    obtain ⟨u, hu, ru⟩ := rv.get hx
    have hel : e < s.heap.objs.size := Heap.lt_size he
    have hil : it < s.heap.objs.size := by obtain ⟨_, q, _⟩ := hit; exact Heap.lt_size q
    have hlt : i < its.toArray.size := by simpa using (List.getElem?_eq_some_iff.mp hu).1
    refine wpAny_pyNext_enum_itemD (Draws.tuple (A := X.A.in1) (I.ok.hd hc) it a ha its.toArray) he ⟨hit, p⟩ hlt hne (by simp; exact ⟨hne, fun z => hae z.symm⟩) fun y h' tk hy ho hst' hT hsz hk => ?_
    have ey : y = u := by
      have hu' : its.toArray[i]? = some u := by simpa using hu
      rw [hu'] at hy
      exact (Option.some.inj hy).symm
    subst ey
    obtain ⟨hit', p'⟩ := hst'
    refine ⟨_, rfl, wpAny_letOwnedTupleGo_enum (s := { s with heap := h', toks := tk + 1 }) ho fun h'' he' sb => ?_⟩
    have hT2 : h''.get? s.heap.objs.size = some { cls := .type "tuple", data := .seq #[.int i tk, y] } := (sb.2 _ (Nat.ne_of_gt hel)).trans hT
    have new : ObjOk X.prog X.w (upd H s.heap.objs.size (.tup [.int (i : Nat), x])) h'' s.heap.objs.size (.tup [.int (i : Nat), x]) :=
      ⟨by show 2 ≤ sizeLine; decide, [.int i tk, y], .cons ⟨_, rfl⟩ (.cons ru .nil), ⟨_, hT2, rfl, _, rfl⟩⟩
    have I1 : Inv X pins σ (upd H s.heap.objs.size (.tup [.int (i : Nat), x])) { s with heap := h'', toks := tk + 1 } :=
      I.turnedNew (ch := [e, it]) (fun b ob hb q => (sb.2 b (fun z => hb (by simp [z]))).trans (hk b ob (fun z => hb (by simp [z])) (fun z => hb (by simp [z])) q)) hf (Nat.le_refl _) new
    refine ⟨.ref s.heap.objs.size, _, I1, rfl, ⟨_, x, rfl, I.hok.fresh (Nat.le_refl _), rfl, fun ys hy => by rw [I.tuple_inj hy hq]; exact hx⟩, ⟨⟨y, ?_⟩, hit'.at fun o q => (sb.2 it (Ne.symm hne)).trans q, hne⟩, fun b hb => ?_⟩
    · have e1 : ((i + 1 : Nat) : Int) = (i : Int) + 1 := by omega
      rw [e1]; exact he'
    · have hb' : b < s.heap.objs.size := by
        have e' : b = e ∨ b = it := by simpa using hb
        rcases e' with z | z
        · rw [z]; exact hel
        · rw [z]; exact hil
      rw [upd_ne (Nat.ne_of_lt hb')]
      exact (hf b hb).1
  done := by
    intro X hP hw hK hc i pins s σ H E I hf st hg
    subst hP hw hK
    obtain ⟨⟨old, he⟩, hit, hne⟩ := st
    obtain ⟨xs, hq, hx⟩ := hg
    obtain ⟨its, rv, p, hz⟩ := I.tuple hq
    obtain ⟨f0, f1, f2, f3, f4, f5⟩ := hf it (by simp)
    have hl := rv.length
    exact enum_endT (I.ok.hd hc) he hit p (by simp; omega) fun h' eb => ⟨rfl, I.turned (t' := s.toks) (fun b o hb q => eb b o hb q) f0 f1 f3 f4 f5⟩
  self := fun A i s Q E st h => let ⟨⟨_, he⟩, _⟩ := st; wpAny_pyIter_enum he h
def iEnumA (K : PySem.W.Frag) (ta : TA) : TI := fun σ H R => ta σ H fun vs H1 => ∃ a xs, vs = [.ref a] ∧ ((SqL K H1 a xs ∧ R (Ite K a) H1) ∨ (SqT K H1 a xs ∧ R (IteT K a) H1))
theorem pi_enumA {X : Cx} {e : Expr} {ta : TA} {p pos tpos : Pos} {elts : List Expr} {kk : Nat} (hg : Gl X "enumerate") (hm : X.mg "enumerate" = none) (ha : PA X [e] ta) (hs : starEach [e] X.env = [(false, eval e X.env)] := by rfl) :
    PI X (.Tuple elts kk tpos) (.Call (.Name "enumerate" p) [e] [] pos) (iEnumA X.K ta) := by
  refine ⟨fun pins s σ H R I h => ?_⟩
  refine Call_ (ld_blt I hg hm boot_enumerate (PyProof.Rows.callWith_type1 (thn (ha.run pos pins s σ H _ I h) fun us s1 ⟨vs, H1, I1, r1, q1⟩ => ?_) hs rfl))
  obtain ⟨a, xs, ex, q1⟩ := q1
  subst ex
  cases r1 with
  | cons r rr =>
    cases rr
    cases r
    have fp : ∀ b ∈ [s1.heap.objs.size + 1, s1.heap.objs.size], FpOk X pins H1 b := fun b hb => by
      have e' : b = s1.heap.objs.size + 1 ∨ b = s1.heap.objs.size := by simpa using hb
      have hle : s1.heap.objs.size ≤ b := by
        rcases e' with z | z
        · rw [z]; exact Nat.le_add_right _ _
        · rw [z]; exact Nat.le_refl _
      exact I1.fpOk hle (I1.hok.fresh hle)
    rcases q1 with ⟨hq, q⟩ | ⟨hq, q⟩
    · obtain ⟨its, rv, p', hz⟩ := I1.list hq
      refine call_enumerate_list p'.isList fun h' he hit hsz hk => wpAny_pyIter_enum he ?_
      have I2 : Inv X pins σ H1 { s1 with heap := h' } := I1.kept (t' := s1.toks) hk
      exact ⟨s1.heap.objs.size + 1, [s1.heap.objs.size + 1, s1.heap.objs.size], _, _, H1, rfl, I2, turn_enum a (s1.heap.objs.size + 1) s1.heap.objs.size, ⟨⟨.none, he⟩, hit, Nat.succ_ne_self _⟩, fp, q⟩
    · obtain ⟨its, rv, p', hz⟩ := I1.tuple hq
      have hal : a < s1.heap.objs.size := by obtain ⟨o, ho, _⟩ := id p'; exact Heap.lt_size ho
      refine call_enum1 (begins_tuple a its.toArray) (show s1.heap.IsTuple a its.toArray from p') fun h' he hit hsz hk => wpAny_pyIter_enum he ?_
      have I2 : Inv X pins σ H1 { s1 with heap := h' } := I1.kept (t' := s1.toks) hk
      exact ⟨s1.heap.objs.size + 1, [s1.heap.objs.size + 1, s1.heap.objs.size], _, _, H1, rfl, I2, turn_enumT a (s1.heap.objs.size + 1) s1.heap.objs.size (Nat.ne_of_lt hal) (Nat.ne_of_lt (Nat.lt_succ_of_lt hal)), ⟨⟨.none, he⟩, ⟨_, hit, rfl, rfl⟩, Nat.succ_ne_self _⟩, fp, q⟩
end Mx
set_option maxHeartbeats 400000
namespace Mx
open PySem L2

def AS.plus (Mo : AS) (d : Addr) : AS := fun a => Mo a ∨ a = d
section
variable {K : Frg} {Mo : AS} {C : CM} {H H' : Hp} {σ : St} {ρ : Rho} {np : Nat} {D0 : Addr} {r : Option Addr}
theorem mm_plus (a : Addr) : MM (AS.plus Mo D0) C none a ↔ MM Mo C (some D0) a := by
  constructor
  · rintro ((m | m) | m | m)
    · exact .inl m
    · exact .inr (.inr (by rw [m]))
    · exact .inr (.inl m)
    · cases m
  · rintro (m | m | m)
    · exact .inl (.inl m)
    · exact .inr (.inl m)
    · exact .inl (.inr (Option.some.inj m).symm)
theorem mov_iff {M M' : AS} (h : ∀ a, M' a → M a) : Mov M H M' H := fun a o e n => ⟨e, fun z => n (h a z)⟩
/-- the result's place is set aside -/
theorem Eok.aside (E : Eok K Mo C (some D0) H σ ρ) (hD : ∃ o, H D0 = some o) : Eok K (AS.plus Mo D0) C none H σ ρ := by
  have m : Mov (MM Mo C (some D0)) H (MM (AS.plus Mo D0) C none) H := mov_iff fun a => (mm_plus a).mp
  refine ⟨E.len, fun i d e => ?_, fun i l e => ?_, E.only, E.inj, fun a h => ?_, fun i a h => ?_, fun _ z => (nomatch z)⟩
  · obtain ⟨v, h1, h2⟩ := E.imm i d e
    exact ⟨v, h1, DOk.mov m d v h2⟩
  · obtain ⟨a, xs, h1, h2, h3, h4⟩ := E.cel i l e
    exact ⟨a, xs, h1, h2, h3, DsOk.mov m l xs h4⟩
  · rcases h with h | h
    · exact E.out a h
    · rw [h]; exact hD
  · rintro (m | m)
    · exact E.apart i a h m
    · exact (E.rz D0 rfl).1 i (by rw [h, m])
theorem Eok.unaside (E : Eok K (AS.plus Mo D0) C none H σ ρ) (h0 : ¬ Mo D0) : Eok K Mo C (some D0) H σ ρ := by
  have m : Mov (MM (AS.plus Mo D0) C none) H (MM Mo C (some D0)) H := mov_iff fun a => (mm_plus a).mpr
  refine ⟨E.len, fun i d e => ?_, fun i l e => ?_, E.only, E.inj, fun a h => E.out a (.inl h), fun i a h m => E.apart i a h (.inl m), fun a z => ?_⟩
  · obtain ⟨v, h1, h2⟩ := E.imm i d e
    exact ⟨v, h1, DOk.mov m d v h2⟩
  · obtain ⟨a, xs, h1, h2, h3, h4⟩ := E.cel i l e
    exact ⟨a, xs, h1, h2, h3, DsOk.mov m l xs h4⟩
  · cases z
    exact ⟨fun i hi => E.apart i D0 hi (.inr rfl), h0⟩
def CM.off (C : CM) (i : Nat) : CM := fun j => if j = i then none else C j
theorem off_some {i j : Nat} {a : Addr} (h : CM.off C i j = some a) : j ≠ i ∧ C j = some a := by
  unfold CM.off at h
  by_cases z : j = i
  · rw [if_pos z] at h; cases h
  · rw [if_neg z] at h; exact ⟨z, h⟩
theorem off_ne {i j : Nat} (h : j ≠ i) : CM.off C i j = C j := by unfold CM.off; rw [if_neg h]
theorem off_stp {i : Nat} : Stp np C H (CM.off C i) none H :=
  ⟨fun _ _ h _ => h, fun j a h => .inl ⟨j, (off_some h).2⟩, fun _ z => (nomatch z), fun j a _ h => (off_some h).2⟩
/-- a name's slot holds something that stays -/
theorem Eok.store (E : Eok K Mo C none H σ ρ) {i : Nat} {v : V} {d : D} (hd : DOk K (MM Mo C none) H d v) : Eok K Mo (CM.off C i) none H (σ.set i (some v)) (ρ.set i (some (.imm d))) := by
  have m : Mov (MM Mo C none) H (MM Mo (CM.off C i) none) H := (off_stp (np := 0)).mov E.out
  refine ⟨by simp [E.len], fun j d' e => ?_, fun j l e => ?_, fun j a h => ?_, fun j k a h h' => E.inj j k a (off_some h).2 (off_some h').2, E.out, fun j a h => E.apart j a (off_some h).2, fun _ z => (nomatch z)⟩
  · by_cases z : j = i
    · subst z
      by_cases hl : j < ρ.length
      · rw [List.getElem?_set_self hl] at e
        cases e
        exact ⟨v, List.getElem?_set_self (by rw [E.len]; exact hl), DOk.mov m d v hd⟩
      · rw [List.getElem?_eq_none (by simpa using hl)] at e
        cases e
    · rw [List.getElem?_set_ne (Ne.symm z)] at e
      obtain ⟨u, h1, h2⟩ := E.imm j d' e
      exact ⟨u, by rw [List.getElem?_set_ne (Ne.symm z)]; exact h1, DOk.mov m d' u h2⟩
  · by_cases z : j = i
    · subst z
      by_cases hl : j < ρ.length
      · rw [List.getElem?_set_self hl] at e
        cases e
      · rw [List.getElem?_eq_none (by simpa using hl)] at e
        cases e
    · rw [List.getElem?_set_ne (Ne.symm z)] at e
      obtain ⟨a, xs, h1, h2, h3, h4⟩ := E.cel j l e
      exact ⟨a, xs, by rw [off_ne z]; exact h1, by rw [List.getElem?_set_ne (Ne.symm z)]; exact h2, h3, DsOk.mov m l xs h4⟩
  · obtain ⟨z, h⟩ := off_some h
    obtain ⟨l, q⟩ := E.only j a h
    exact ⟨l, by rw [List.getElem?_set_ne (Ne.symm z)]; exact q⟩
/-- a name's slot is forgotten -/
theorem Eok.wipe (E : Eok K Mo C none H σ ρ) {i : Nat} : Eok K Mo (CM.off C i) none H (σ.set i none) (ρ.set i none) := by
  have m : Mov (MM Mo C none) H (MM Mo (CM.off C i) none) H := (off_stp (np := 0)).mov E.out
  refine ⟨by simp [E.len], fun j d' e => ?_, fun j l e => ?_, fun j a h => ?_, fun j k a h h' => E.inj j k a (off_some h).2 (off_some h').2, E.out, fun j a h => E.apart j a (off_some h).2, fun _ z => (nomatch z)⟩
  · by_cases z : j = i
    · subst z
      by_cases hl : j < ρ.length
      · rw [List.getElem?_set_self hl] at e
        cases e
      · rw [List.getElem?_eq_none (by simpa using hl)] at e
        cases e
    · rw [List.getElem?_set_ne (Ne.symm z)] at e
      obtain ⟨u, h1, h2⟩ := E.imm j d' e
      exact ⟨u, by rw [List.getElem?_set_ne (Ne.symm z)]; exact h1, DOk.mov m d' u h2⟩
  · by_cases z : j = i
    · subst z
      by_cases hl : j < ρ.length
      · rw [List.getElem?_set_self hl] at e
        cases e
      · rw [List.getElem?_eq_none (by simpa using hl)] at e
        cases e
    · rw [List.getElem?_set_ne (Ne.symm z)] at e
      obtain ⟨a, xs, h1, h2, h3, h4⟩ := E.cel j l e
      exact ⟨a, xs, by rw [off_ne z]; exact h1, by rw [List.getElem?_set_ne (Ne.symm z)]; exact h2, h3, DsOk.mov m l xs h4⟩
  · obtain ⟨z, h⟩ := off_some h
    obtain ⟨l, q⟩ := E.only j a h
    exact ⟨l, by rw [List.getElem?_set_ne (Ne.symm z)]; exact q⟩
/-- a thing that is set aside is written -/
theorem Eok.writeAside (E : Eok K Mo C none H σ ρ) {o : HO} (h0 : Mo D0) : Eok K Mo C none (upd H D0 o) σ ρ ∧ Mov (MM Mo C none) H (MM Mo C none) (upd H D0 o) := by
  have m : Mov (MM Mo C none) H (MM Mo C none) (upd H D0 o) := fun a u e n => ⟨by rw [upd_ne fun z => n (.inl (by rw [z]; exact h0))]; exact e, n⟩
  refine ⟨⟨E.len, fun i d e => ?_, fun i l e => ?_, E.only, E.inj, fun a h => ?_, E.apart, fun _ z => (nomatch z)⟩, m⟩
  · obtain ⟨v, h1, h2⟩ := E.imm i d e
    exact ⟨v, h1, DOk.mov m d v h2⟩
  · obtain ⟨a, xs, h1, h2, h3, h4⟩ := E.cel i l e
    refine ⟨a, xs, h1, h2, ?_, DsOk.mov m l xs h4⟩
    rw [upd_ne fun z => E.apart i a h1 (by rw [z]; exact h0)]
    exact h3
  · by_cases z : a = D0
    · rw [z]; exact ⟨_, upd_same⟩
    · rw [upd_ne z]; exact E.out a h
end

/-! ## What is walked -/
structure WkOk (K : Frg) (Mo : AS) (C : CM) (H : Hp) (items : List D) (J : It) : Prop where
  go : ∀ {Mo' : AS} {C2 : CM} {H2 : Hp} (j : Nat), j < items.length → Mov (MM Mo C none) H (MM Mo' C2 none) H2 → J.go j H2
  stop : ∀ {Mo' : AS} {C2 : CM} {H2 : Hp}, Mov (MM Mo C none) H (MM Mo' C2 none) H2 → J.stop items.length H2
  yld : ∀ {Mo' : AS} {C2 : CM} {H2 H' : Hp} {σ : St} {ρ : Rho} {np j : Nat} {d : D} {v : V}, items[j]? = some d → Mov (MM Mo C none) H (MM Mo' C2 none) H2 → Eok K Mo' C2 none H2 σ ρ → J.yld j H2 v H' →
    Eok K Mo' C2 none H' σ ρ ∧ Stp np C2 H2 C2 none H' ∧ DOk K (MM Mo' C2 none) H' d v
section
variable {K : Frg} {Mo : AS} {C : CM} {H : Hp}
theorem DsOk.all {M M' : AS} {H' : Hp} {l : List D} {xs : List V} (m : Mov M H M' H') (r : DsOk K M H l xs) {j : Nat} {d : D} (h : l[j]? = some d) {x : V} (hx : xs[j]? = some x) : DOk K M' H' d x := by
  obtain ⟨v, z1, z2⟩ := r.get h
  rw [hx] at z1
  cases z1
  exact DOk.mov m _ _ z2
theorem wk_lst {l : List D} {a : Addr} {xs : List V} (t : LstAt K (MM Mo C none) H a xs) (r : DsOk K (MM Mo C none) H l xs) : WkOk K Mo C H l (Itl K a) where
  go := fun {Mo' C2 H2} j hj m => by
    have hj' : j < xs.length := by rw [r.len]; exact hj
    exact ⟨xs, xs[j], (t.mov m).sq, by simp [hj']⟩
  stop := fun m => ⟨xs, (t.mov m).sq, by rw [r.len]; exact Nat.le_refl _⟩
  yld := fun {Mo' C2 H2 H' σ ρ np j d v} hd m E y => by
    obtain ⟨rfl, y⟩ := y
    exact ⟨E, Stp.refl, r.all m hd (y xs (t.mov m).sq)⟩
theorem wk_tup {l : List D} {a : Addr} {xs : List V} (t : TupAt K (MM Mo C none) H a xs) (r : DsOk K (MM Mo C none) H l xs) : WkOk K Mo C H l (Itt K a) where
  go := fun {Mo' C2 H2} j hj m => by
    have hj' : j < xs.length := by rw [r.len]; exact hj
    exact ⟨xs, xs[j], (t.mov m).sq, by simp [hj']⟩
  stop := fun m => ⟨xs, (t.mov m).sq, by rw [r.len]; exact Nat.le_refl _⟩
  yld := fun {Mo' C2 H2 H' σ ρ np j d v} hd m E y => by
    obtain ⟨rfl, y⟩ := y
    exact ⟨E, Stp.refl, r.all m hd (y xs (t.mov m).sq)⟩
theorem wk_rng {lo : Int} {n : Nat} : WkOk K Mo C H (rangeF lo n) (Itr lo n) where
  go := fun {Mo' C2 H2} j hj m => by simpa [rangeF, Itr] using hj
  stop := fun m => by simp [rangeF, Itr]
  yld := fun {Mo' C2 H2 H' σ ρ np j d v} hd m E y => by
    obtain ⟨rfl, rfl⟩ := y
    refine ⟨E, Stp.refl, ?_⟩
    have hj : j < n := by have := (List.getElem?_eq_some_iff.mp hd).1; simpa [rangeF] using this
    have : d = .int (lo + (j : Int)) := by
      have := (List.getElem?_eq_some_iff.mp hd).2
      simpa [rangeF] using this.symm
    rw [this]
    exact dInt.mpr rfl
/-- a new tuple beside -/
theorem new_pair {Mo' : AS} {C2 : CM} {H2 : Hp} {σ : St} {ρ : Rho} {np : Nat} {T : Addr} {l : List D} {vs : List V} (E : Eok K Mo' C2 none H2 σ ρ) (hT : H2 T = none) (hd : DsOk K (MM Mo' C2 none) H2 l vs) :
    Eok K Mo' C2 none (upd H2 T (.tup vs)) σ ρ ∧ Stp np C2 H2 C2 none (upd H2 T (.tup vs)) ∧ DOk K (MM Mo' C2 none) (upd H2 T (.tup vs)) (.tup l) (.ref T) := by
  obtain ⟨E', S, M⟩ := E.grow (np := np) (H' := upd H2 T (.tup vs)) (r' := none) (upd_grow hT) (fun _ z => (nomatch z))
  refine ⟨E', S, dTup.mpr ⟨T, vs, rfl, .inl ⟨.inl upd_same, ?_⟩, DsOk.mov M l vs hd⟩⟩
  rintro (m | ⟨i, m⟩ | m)
  · obtain ⟨o, q⟩ := E.out T m
    rw [hT] at q; cases q
  · obtain ⟨ys, q⟩ := E.trk m
    rw [hT] at q; cases q
  · cases m
theorem enuF_len : ∀ {l : List D} {k : Nat}, (enuF k l).length = l.length
  | [], _ => rfl
  | d :: l, k => by show (enuF (k + 1) l).length + 1 = _; rw [enuF_len]; rfl
theorem enuF_get : ∀ {l : List D} {k j : Nat} {d : D}, (enuF k l)[j]? = some d → ∃ x, l[j]? = some x ∧ d = .tup [.int ((k + j : Nat) : Int), x]
  | [], _, _, _, h => by simp [enuF] at h
  | y :: l, k, 0, d, h => by
    simp [enuF] at h
    exact ⟨y, rfl, h.symm⟩
  | y :: l, k, j + 1, d, h => by
    obtain ⟨x, e1, e2⟩ := enuF_get (l := l) (k := k + 1) (j := j) (d := d) (by simpa [enuF] using h)
    exact ⟨x, by simpa using e1, by rw [e2, show k + 1 + j = k + (j + 1) by omega]⟩
theorem wk_enu {l : List D} {a : Addr} {xs : List V} (t : LstAt K (MM Mo C none) H a xs) (r : DsOk K (MM Mo C none) H l xs) : WkOk K Mo C H (enuF 0 l) (Ite K a) where
  go := fun {Mo' C2 H2} j hj m => by
    have hj' : j < xs.length := by rw [r.len]; rwa [enuF_len] at hj
    exact ⟨xs, xs[j], (t.mov m).sq, by simp [hj']⟩
  stop := fun m => ⟨xs, (t.mov m).sq, by rw [r.len, enuF_len]; exact Nat.le_refl _⟩
  yld := fun {Mo' C2 H2 H' σ ρ np j d v} hd m E y => by
    obtain ⟨T, x, rfl, hT, rfl, y⟩ := y
    obtain ⟨d', e1, rfl⟩ := enuF_get hd
    rw [Nat.zero_add]
    exact new_pair E hT (DsOk.cons (dInt.mpr rfl) (DsOk.cons (r.all m e1 (y xs (t.mov m).sq)) DsOk.nil))
theorem wk_enuT {l : List D} {a : Addr} {xs : List V} (t : TupAt K (MM Mo C none) H a xs) (r : DsOk K (MM Mo C none) H l xs) : WkOk K Mo C H (enuF 0 l) (IteT K a) where
  go := fun {Mo' C2 H2} j hj m => by
    have hj' : j < xs.length := by rw [r.len]; rwa [enuF_len] at hj
    exact ⟨xs, xs[j], (t.mov m).sq, by simp [hj']⟩
  stop := fun m => ⟨xs, (t.mov m).sq, by rw [r.len, enuF_len]; exact Nat.le_refl _⟩
  yld := fun {Mo' C2 H2 H' σ ρ np j d v} hd m E y => by
    obtain ⟨T, x, rfl, hT, rfl, y⟩ := y
    obtain ⟨d', e1, rfl⟩ := enuF_get hd
    rw [Nat.zero_add]
    exact new_pair E hT (DsOk.cons (dInt.mpr rfl) (DsOk.cons (r.all m e1 (y xs (t.mov m).sq)) DsOk.nil))
theorem zipD_len : ∀ {l m : List D}, (zipD l m).length = min l.length m.length
  | [], _ => by simp [zipD]
  | _ :: _, [] => by simp [zipD]
  | d :: l, e :: m => by show (zipD l m).length + 1 = _; rw [zipD_len]; simp
theorem zipD_get : ∀ {l m : List D} {j : Nat} {d : D}, (zipD l m)[j]? = some d → ∃ x y, l[j]? = some x ∧ m[j]? = some y ∧ d = .tup [x, y]
  | [], _, _, _, h => by simp [zipD] at h
  | _ :: _, [], _, _, h => by simp [zipD] at h
  | x :: l, y :: m, 0, d, h => by
    simp [zipD] at h
    exact ⟨x, y, rfl, rfl, h.symm⟩
  | x :: l, y :: m, j + 1, d, h => by
    obtain ⟨a, b, e1, e2, e3⟩ := zipD_get (l := l) (m := m) (j := j) (d := d) (by simpa [zipD] using h)
    exact ⟨a, b, by simpa using e1, by simpa using e2, e3⟩
theorem wk_zip {l m : List D} {a b : Addr} {xs ys : List V} (t : LstAt K (MM Mo C none) H a xs) (r : DsOk K (MM Mo C none) H l xs) (t' : LstAt K (MM Mo C none) H b ys) (r' : DsOk K (MM Mo C none) H m ys) : WkOk K Mo C H (zipD l m) (Itz K a b) where
  go := fun {Mo' C2 H2} j hj mv => by
    rw [zipD_len] at hj
    have h1 : j < xs.length := by rw [r.len]; omega
    have h2 : j < ys.length := by rw [r'.len]; omega
    exact ⟨xs, ys, xs[j], ys[j], (t.mov mv).sq, (t'.mov mv).sq, by simp [h1], by simp [h2]⟩
  stop := fun mv => ⟨xs, ys, (t.mov mv).sq, (t'.mov mv).sq, by rw [r.len, r'.len, zipD_len]; omega⟩
  yld := fun {Mo' C2 H2 H' σ ρ np j d v} hd mv E y => by
    obtain ⟨T, x, x', rfl, hT, rfl, y1, y2⟩ := y
    obtain ⟨d1, d2, e1, e2, rfl⟩ := zipD_get hd
    exact new_pair E hT (DsOk.cons (r.all mv e1 (y1 xs (t.mov mv).sq)) (DsOk.cons (r'.all mv e2 (y2 ys (t'.mov mv).sq)) DsOk.nil))
theorem wk_zipT {l m : List D} {a b : Addr} {xs ys : List V} (t : TupAt K (MM Mo C none) H a xs) (r : DsOk K (MM Mo C none) H l xs) (t' : TupAt K (MM Mo C none) H b ys) (r' : DsOk K (MM Mo C none) H m ys) : WkOk K Mo C H (zipD l m) (RZ.ItzT K a b) where
  go := fun {Mo' C2 H2} j hj mv => by
    rw [zipD_len] at hj
    have h1 : j < xs.length := by rw [r.len]; omega
    have h2 : j < ys.length := by rw [r'.len]; omega
    exact ⟨xs, ys, xs[j], ys[j], (t.mov mv).sq, (t'.mov mv).sq, by simp [h1], by simp [h2]⟩
  stop := fun mv => ⟨xs, ys, (t.mov mv).sq, (t'.mov mv).sq, by rw [r.len, r'.len, zipD_len]; omega⟩
  yld := fun {Mo' C2 H2 H' σ ρ np j d v} hd mv E y => by
    obtain ⟨T, x, x', rfl, hT, rfl, y1, y2⟩ := y
    obtain ⟨d1, d2, e1, e2, rfl⟩ := zipD_get hd
    exact new_pair E hT (DsOk.cons (r.all mv e1 (y1 xs (t.mov mv).sq)) (DsOk.cons (r'.all mv e2 (y2 ys (t'.mov mv).sq)) DsOk.nil))
end
def IhE (n : Nat) : Prop := ∀ (Γ : Gam) (X : Cx), CxOk Γ X → ∀ e, PE X e (tD Γ.np X.K (ev n Γ false e))
def IhT (n : Nat) : Prop := ∀ (Γ : Gam) (X : Cx), CxOk Γ X → ∀ e, PT X e (tT Γ.np X.K fun ρ => bF (ev n Γ true e ρ))
def isTup : Expr → Bool
  | .Tuple .. => true
  | _ => false
section
variable {Γ : Gam} {X : Cx} {n : Nat}
theorem one_of {e : Expr} {ρ ρ' : Rho} {ds : List D} {ev' : Expr → Rho → Option (En × Rho)} (h : evLw ev' [e] ρ = some (ds, ρ')) : isStar e = false ∧ ∃ d, ds = [d] ∧ immF (ev' e) ρ = some (d, ρ') := by
  have s := evLw_star h e List.mem_cons_self
  unfold evLw at h
  rw [if_neg (by simp [s])] at h
  obtain ⟨p, h1, h2⟩ := Option.bind_eq_some_iff.mp h
  cases h2
  exact ⟨s, p.1, rfl, h1⟩
theorem two_of {ds items : List D} {f : D → D → Option (List D)} (h : (match ds with | [x, y] => f x y | _ => none) = some items) : ∃ x y, ds = [x, y] ∧ f x y = some items := by
  cases ds with
  | nil => cases h
  | cons x r => cases r with
    | nil => cases h
    | cons y r => cases r with
      | nil => exact ⟨x, y, rfl, h⟩
      | cons _ _ => cases h
theorem rng2_of {ds items : List D} (h : itK .rng2 ds = some items) : ∃ i j : Int, ds = [.int i, .int j] ∧ rng2D (.int i) (.int j) = some items := by
  obtain ⟨x, y, rfl, h⟩ := two_of (f := rng2D) (ds := ds) (items := items) (by
    rw [← h]
    cases ds with
    | nil => rfl
    | cons x r => cases r with
      | nil => rfl
      | cons y r => cases r <;> rfl)
  cases x <;> cases y <;> first | exact ⟨_, _, rfl, h⟩ | cases h
theorem zip2_of {ds items : List D} (h : itK .zip ds = some items) : (∃ l m, ds = [.lst l, .lst m] ∧ items = zipD l m) ∨ ∃ l m, ds = [.tup l, .tup m] ∧ items = zipD l m := by
  obtain ⟨x, y, rfl, h⟩ := two_of (f := zip2D) (ds := ds) (items := items) (by
    rw [← h]
    cases ds with
    | nil => rfl
    | cons x r => cases r with
      | nil => rfl
      | cons y r => cases r <;> rfl)
  cases x <;> cases y <;> first | (cases h; exact .inl ⟨_, _, rfl, rfl⟩) | (cases h; exact .inr ⟨_, _, rfl, rfl⟩) | cases h
theorem it_ok (ih : IhE n) (c : CxOk Γ X) {tt : Bool} {e : Expr} {σ : St} {H : Hp} {Mo : AS} {C : CM} {ρ ρ' : Rho} {items : List D} (E : Eok X.K Mo C none H σ ρ) (h : evIt tt Γ (ev n Γ false) e ρ = some (items, ρ')) :
    ∃ wi : TI, (∀ tg, (tt = true → isTup tg = true) → PI X tg e wi) ∧ ∀ R : It → Hp → Prop, (∀ C' J H', Eok X.K Mo C' none H' σ ρ' → Stp Γ.np C H C' none H' → WkOk X.K Mo C' H' items J → R J H') → wi σ H R := by
  unfold evIt at h
  obtain ⟨⟨k, es⟩, hk, h⟩ := Option.bind_eq_some_iff.mp h
  obtain ⟨⟨ds, ρ1⟩, h1, h2⟩ := Option.bind_eq_some_iff.mp h
  obtain ⟨items', h3, h4⟩ := Option.bind_eq_some_iff.mp h2
  cases h4
  have gen : k = .seq → es = [e] → ∃ wi : TI, (∀ tg, (tt = true → isTup tg = true) → PI X tg e wi) ∧ ∀ R : It → Hp → Prop, (∀ C' J H', Eok X.K Mo C' none H' σ ρ1 → Stp Γ.np C H C' none H' → WkOk X.K Mo C' H' items J → R J H') → wi σ H R := by
    intro e1 e2
    subst e1 e2
    obtain ⟨_, d, rfl, q1⟩ := one_of h1
    cases d with
    | lst l =>
      cases h3
      refine ⟨_, fun tg _ => pi_list (ih Γ X c e).toI, fun R k => ⟨Mo, C, ρ, _, _, E, q1, fun C' v H' E' d' S' => ?_⟩⟩
      obtain ⟨a, xs, rfl, t, r⟩ := dLst.mp d'
      exact ⟨a, rfl, ⟨xs, t.sq⟩, k C' _ H' E' S' (wk_lst t r)⟩
    | tup l =>
      cases h3
      refine ⟨_, fun tg _ => pi_tup (ih Γ X c e).toI, fun R k => ⟨Mo, C, ρ, _, _, E, q1, fun C' v H' E' d' S' => ?_⟩⟩
      obtain ⟨a, xs, rfl, t, r⟩ := dTup.mp d'
      exact ⟨a, rfl, ⟨xs, t.sq⟩, k C' _ H' E' S' (wk_tup t r)⟩
    | non => cases h3
    | bl _ => cases h3
    | int _ => cases h3
    | str _ => cases h3
  have tg_of : ∀ {tg : Expr}, isTup tg = true → ∃ elts k p, tg = .Tuple elts k p := fun {tg} q => by
    cases tg with
    | Tuple a b c => exact ⟨a, b, c, rfl⟩
    | _ => cases q
  unfold ikOf at hk
  split at hk
  · rename_i f fp args cp
    split at hk
    · rename_i hg
      rw [Bool.and_eq_true] at hg
      obtain ⟨g1, g2⟩ := hg
      split at hk
      · rename_i hf
        subst hf
        split at hk
        · rename_i a
          cases hk
          obtain ⟨sa, d, rfl, q1⟩ := one_of h1
          have st : starEach [a] X.env = [(false, eval a X.env)] := star_no sa
          refine ⟨_, fun tg _ => pi_range1 (c.gl g1) (c.blt _ g2) (evLw_ok (ih Γ X c) [a]) st, fun R k => ?_⟩
          refine ⟨Mo, C, ρ, _, _, E, h1, fun C' v H' E' d' S' => ?_⟩
          unfold DsOk at d'
          obtain ⟨v, r, rfl, d', z⟩ := d'
          unfold DsOk at z
          subst z
          cases d with
          | int m =>
            rw [dInt] at d'
            subst d'
            have h3 : (if m ≤ 1000000 ∧ -1000000 ≤ m then some (rangeD m.toNat) else none) = some items := h3
            split at h3
            · cases h3
              exact ⟨m, rfl, by omega, by omega, k C' _ H' E' S' wk_rng⟩
            · cases h3
          | non => cases h3
          | bl _ => cases h3
          | lst _ => cases h3
          | tup _ => cases h3
          | str _ => cases h3
        · rename_i a b
          cases hk
          have sa := evLw_star h1 a List.mem_cons_self
          have sb := evLw_star h1 b (by simp)
          have st : starEach [a, b] X.env = [(false, eval a X.env), (false, eval b X.env)] := by rw [star_no sa, star_no sb]; rfl
          have st2 : starEach [b] X.env = [(false, eval b X.env)] := star_no sb
          refine ⟨_, fun tg _ => pi_range2 (c.gl g1) (c.blt _ g2) (evLw_ok (ih Γ X c) [a, b]) st st2, fun R k => ?_⟩
          refine ⟨Mo, C, ρ, _, _, E, h1, fun C' vs H' E' d' S' => ?_⟩
          obtain ⟨i, j, rfl, h3⟩ := rng2_of h3
          · have h3 : (if (i ≤ 1000000 ∧ -1000000 ≤ i) ∧ (j ≤ 1000000 ∧ -1000000 ≤ j) then some (rangeF i (j - i).toNat) else none) = some items := h3
            split at h3
            · rename_i q
              cases h3
              unfold DsOk at d'
              obtain ⟨x, r, rfl, z1, d'⟩ := d'
              unfold DsOk at d'
              obtain ⟨y, r, rfl, z2, d'⟩ := d'
              unfold DsOk at d'
              subst d'
              rw [dInt] at z1 z2
              subst z1 z2
              exact ⟨i, j, rfl, ⟨by omega, by omega, by omega, by omega⟩, k C' _ H' E' S' wk_rng⟩
            · cases h3
        · cases hk
      · split at hk
        · rename_i _ hf
          subst hf
          split at hk
          · rename_i a
            split at hk
            · rename_i htt
              cases hk
              obtain ⟨sa, d, rfl, q1⟩ := one_of h1
              have st : starEach [a] X.env = [(false, eval a X.env)] := star_no sa
              refine ⟨iEnumA X.K (tL Γ.np X.K (evLw (ev n Γ false) [a])), fun tg ht => ?_, fun R k => ?_⟩
              · obtain ⟨elts, kk, tp, rfl⟩ := tg_of (ht htt)
                exact pi_enumA (c.gl g1) (c.blt _ g2) (evLw_ok (ih Γ X c) [a]) st
              · refine ⟨Mo, C, ρ, _, _, E, h1, fun C' v H' E' d' S' => ?_⟩
                unfold DsOk at d'
                obtain ⟨v, r, rfl, d', z⟩ := d'
                unfold DsOk at z
                subst z
                cases d with
                | lst l =>
                  cases h3
                  obtain ⟨a, xs, rfl, t, r⟩ := dLst.mp d'
                  exact ⟨a, xs, rfl, .inl ⟨t.sq, k C' _ H' E' S' (wk_enu t r)⟩⟩
                | tup l =>
                  cases h3
                  obtain ⟨a, xs, rfl, t, r⟩ := dTup.mp d'
                  exact ⟨a, xs, rfl, .inr ⟨t.sq, k C' _ H' E' S' (wk_enuT t r)⟩⟩
                | non => cases h3
                | bl _ => cases h3
                | int _ => cases h3
                | str _ => cases h3
            · cases hk
          · cases hk
        · split at hk
          · rename_i _ _ hf
            subst hf
            split at hk
            · rename_i a b
              split at hk
              · rename_i htt
                cases hk
                have sa := evLw_star h1 a List.mem_cons_self
                have sb := evLw_star h1 b (by simp)
                refine ⟨RZ.iZipA X.K (tL Γ.np X.K (evLw (ev n Γ false) [a, b])), fun tg ht => ?_, fun R k => ?_⟩
                · obtain ⟨elts, kk, tp, rfl⟩ := tg_of (ht htt)
                  exact RZ.pi_zipA (c.gl g1) (c.blt _ g2) (evLw_ok (ih Γ X c) [a, b]) (star_no sa) (plain_args fun x hx => by simp at hx; subst hx; exact sb)
                · refine ⟨Mo, C, ρ, _, _, E, h1, fun C' vs H' E' d' S' => ?_⟩
                  rcases zip2_of h3 with ⟨l, m, rfl, rfl⟩ | ⟨l, m, rfl, rfl⟩
                  · unfold DsOk at d'
                    obtain ⟨x, r, rfl, z1, d'⟩ := d'
                    unfold DsOk at d'
                    obtain ⟨y, r, rfl, z2, d'⟩ := d'
                    unfold DsOk at d'
                    subst d'
                    obtain ⟨a1, xs, rfl, t1, r1⟩ := dLst.mp z1
                    obtain ⟨a2, ys, rfl, t2, r2⟩ := dLst.mp z2
                    exact ⟨a1, a2, xs, ys, rfl, .inl ⟨t1.sq, t2.sq, k C' _ H' E' S' (wk_zip t1 r1 t2 r2)⟩⟩
                  · unfold DsOk at d'
                    obtain ⟨x, r, rfl, z1, d'⟩ := d'
                    unfold DsOk at d'
                    obtain ⟨y, r, rfl, z2, d'⟩ := d'
                    unfold DsOk at d'
                    subst d'
                    obtain ⟨a1, xs, rfl, t1, r1⟩ := dTup.mp z1
                    obtain ⟨a2, ys, rfl, t2, r2⟩ := dTup.mp z2
                    exact ⟨a1, a2, xs, ys, rfl, .inr ⟨t1.sq, t2.sq, k C' _ H' E' S' (wk_zipT t1 r1 t2 r2)⟩⟩
              · cases hk
            · cases hk
          · cases hk
            exact gen rfl rfl
    · cases hk
      exact gen rfl rfl
  · cases hk
    exact gen rfl rfl

/-! ## Comprehensions -/
theorem blk_ok (c : CxOk Γ X) {s : Shared} {H : Hp} {scope : Scope} {cl : List (Str × Addr)} {Ca : Addr} {fp : List Addr} : CxOk { Γ with sc := relS scope Γ.sc } (X.blk s H scope (compEnvC scope cl Ca X.env) fp) :=
  ⟨c.nN, c.nd, by rw [← c.sc]; rfl, c.calm, rfl, c.room, c.guard, fun x F h => ⟨(c.phi x F h).ok⟩, c.glo, c.blt⟩
structure LcParts (X : Cx) (tg iter : Expr) (ifs : List Expr) (elt : Expr) (scope : Scope) (wi : TI) (g : TG) (tt : TT) (te : TE) (own : List (Str × Nat)) : Prop where
  hi : PI X tg iter wi
  ok : BlkOk X.N X.env.scope scope own
  hg : ∀ (s : Shared) (H : Hp) (C : Addr) (cl : List (Str × Addr)) (fp : List Addr), PG (X.blk s H scope (compEnvC scope cl C X.env) fp) tg g
  ht : ∀ (s : Shared) (H : Hp) (C : Addr) (cl : List (Str × Addr)) (fp : List Addr), PTs (X.blk s H scope (compEnvC scope cl C X.env) fp) ifs tt
  he : ∀ (s : Shared) (H : Hp) (C : Addr) (cl : List (Str × Addr)) (fp : List Addr), PE (X.blk s H scope (compEnvC scope cl C X.env) fp) elt te
end
end Mx
set_option maxHeartbeats 400000
namespace Mx
open PySem L2

section
variable {K : Frg} {Mo : AS} {C C' : CM} {H H' : Hp} {σ : St} {ρ : Rho} {np : Nat} {D0 : Addr} {r : Option Addr}
theorem line_lt {n : Nat} (h : n < line) : n < sizeLine := by rw [line_eq]; exact h

/-- where a comprehension stands behind some turns -/
structure LcAt (K : Frg) (np : Nat) (Mo : AS) (C1 : CM) (H1 : Hp) (σw : St) (st : D → Rho → Option Rho) (vs : List Nat) (D0 : Addr) (test : Rho → Option (Bool × Rho)) (elt : Rho → Option (En × Rho)) (final : List D) (ρe : Rho) (items : List D) (H : Hp) : Prop where
  at_ : ∃ C2 ρi acc accV rest, Eok K (AS.plus Mo D0) C2 none H σw ρi ∧ lcTurnsG st vs test elt items ρi = some (rest, ρe) ∧ acc ++ rest = final ∧ H D0 = some (.lst accV) ∧ DsOk K (MM (AS.plus Mo D0) C2 none) H acc accV ∧ Stp np C1 H1 C2 none H
/-- a target: what it stores, in which slots -/
structure TgOk (np : Nat) (K : Frg) (g : TG) (vs : List Nat) (st : D → Rho → Option Rho) : Prop where
  run : ∀ {Mo : AS} {C : CM} {H : Hp} {σ : St} {ρ ρ1 : Rho} {x : V} {d : D} {Q : St → Hp → Prop}, Eok K Mo C none H σ ρ → st d ρ = some ρ1 → DOk K (MM Mo C none) H d x →
    (∀ C' σ', Eok K Mo C' none H σ' ρ1 → Stp np C H C' none H → wipe σ' vs = wipe σ vs → Q σ' H) → g x σ H Q
theorem Eok.wipes (E : Eok K Mo C none H σ ρ) : ∀ (vs : List Nat), ∃ C', Eok K Mo C' none H (L2.wipe σ vs) (wipeR ρ vs) ∧ Stp np C H C' none H
  | [] => ⟨C, E, Stp.refl⟩
  | v :: vs => by
    obtain ⟨C', E', S⟩ := E.wipes vs
    exact ⟨_, E'.wipe (i := v), S.trans off_stp⟩
theorem wipeR_get (ρ : Rho) : ∀ (vs : List Nat) (j : Nat), (wipeR ρ vs)[j]? = if j ∈ vs ∧ j < ρ.length then some none else ρ[j]?
  | [], j => by simp [wipeR]
  | v :: vs, j => by
    have hl : ∀ vs : List Nat, (wipeR ρ vs).length = ρ.length := fun vs => by
      induction vs with
      | nil => rfl
      | cons v vs ih => unfold wipeR; rw [List.length_set, ih]
    unfold wipeR
    by_cases z : v = j
    · subst z
      by_cases q : v < ρ.length
      · rw [List.getElem?_set_self (by rw [hl]; exact q), if_pos ⟨List.mem_cons_self, q⟩]
      · rw [List.getElem?_eq_none (by rw [List.length_set, hl]; omega), if_neg (by simp [q]), List.getElem?_eq_none (by omega)]
    · rw [List.getElem?_set_ne z, wipeR_get ρ vs j]
      have : (j ∈ v :: vs) ↔ j ∈ vs := by simp [Ne.symm z]
      simp only [this]
theorem wipe_get (σ : St) : ∀ (vs : List Nat) (j : Nat), (wipe σ vs)[j]? = if j ∈ vs ∧ j < σ.length then some none else σ[j]?
  | [], j => by simp [wipe]
  | v :: vs, j => by
    unfold wipe
    by_cases z : v = j
    · subst z
      by_cases q : v < σ.length
      · rw [List.getElem?_set_self (by rw [wipe_length]; exact q), if_pos ⟨List.mem_cons_self, q⟩]
      · rw [List.getElem?_eq_none (by rw [List.length_set, wipe_length]; omega), if_neg (by simp [q]), List.getElem?_eq_none (by omega)]
    · rw [List.getElem?_set_ne z, wipe_get σ vs j]
      have : (j ∈ v :: vs) ↔ j ∈ vs := by simp [Ne.symm z]
      simp only [this]
theorem wipe_wipe (σ : St) (vs : List Nat) : wipe (wipe σ vs) vs = wipe σ vs := by
  apply List.ext_getElem?
  intro j
  rw [wipe_get, wipe_get, wipe_length]
  split <;> rfl
/-- a comprehension over anything that is walked -/
theorem lc_gen {J : It} {n : Nat} {g : TG} {tt : TT} {te : TE} {vs : List Nat} {σ : St} {H1 : Hp} {D : Addr} {Qd : Hp → Prop} (Pv : Nat → Hp → Prop) (h0 : Pv 0 (upd H1 D (.lst []))) (hgo : ∀ i H, i < n → Pv i H → J.go i H) (hst : ∀ H, Pv n H → J.stop n H)
    (hs : ∀ i x H H', i < n → Pv i H → J.yld i H x H' → g x (wipe σ vs) H' fun σ2 H2 => wipe σ2 vs = wipe σ vs ∧ tt σ2 H2 fun b H3 =>
      if b = true then te σ2 H3 fun y H4 => ∃ acc, H4 D = some (.lst acc) ∧ acc.length < sizeLine ∧ Pv (i + 1) (upd H4 D (.lst (acc ++ [y]))) else Pv (i + 1) H3) (hd : ∀ H, Pv n H → Qd H) :
    ∃ W : Nat → Nat → Hp → Prop, (∃ m, W 0 m (upd H1 D (.lst []))) ∧ ∀ i m H, W i m H →
      (J.stop i H ∧ Qd H) ∨ (J.go i H ∧ ∃ Nx : Hp → Prop, (∀ H', Nx H' → ∃ m', m' < m ∧ W (i + 1) m' H') ∧ ∀ x H', J.yld i H x H' → g x (wipe σ vs) H' fun σ2 H2 => wipe σ2 vs = wipe σ vs ∧ tt σ2 H2 fun b H3 =>
        if b = true then te σ2 H3 fun y H4 => ∃ acc, H4 D = some (.lst acc) ∧ acc.length < sizeLine ∧ Nx (upd H4 D (.lst (acc ++ [y]))) else Nx H3) := by
  refine ⟨fun i m H => m = n - i ∧ i ≤ n ∧ Pv i H, ⟨n, by simp, Nat.zero_le _, h0⟩, ?_⟩
  rintro i m H ⟨rfl, hi, p⟩
  by_cases hlt : i < n
  · exact .inr ⟨hgo i H hlt p, Pv (i + 1), fun H' p' => ⟨n - (i + 1), by omega, rfl, hlt, p'⟩, fun x H' y => hs i x H H' hlt p y⟩
  · have e : i = n := by omega
    subst e
    exact .inl ⟨hst H p, hd H p⟩
theorem for_gen {J : It} {n : Nat} {g : TG} {tb : TS} {D : Ends} {σ : St} {H : Hp} (Pv : Nat → St → Hp → Prop) (h0 : Pv 0 σ H) (hgo : ∀ i σ H, i < n → Pv i σ H → J.go i H) (hst : ∀ σ H, Pv n σ H → J.stop n H)
    (hs : ∀ i x σ H H', i < n → Pv i σ H → J.yld i H x H' → g x σ H' fun σ2 H2 => tb { D with nx := Pv (i + 1), ct := Pv (i + 1), bk := D.nx } σ2 H2) (hd : ∀ σ H, Pv n σ H → D.nx σ H) :
    ∃ W : Nat → Nat → St → Hp → Prop, (∃ m, W 0 m σ H) ∧ ∀ i m σ H, W i m σ H →
      (J.stop i H ∧ D.nx σ H) ∨ (J.go i H ∧ ∃ N : St → Hp → Prop, (∀ σ' H', N σ' H' → ∃ m', m' < m ∧ W (i + 1) m' σ' H') ∧ ∀ x H', J.yld i H x H' → g x σ H' fun σ2 H2 => tb { D with nx := N, ct := N, bk := D.nx } σ2 H2) := by
  refine ⟨fun i m σ H => m = n - i ∧ i ≤ n ∧ Pv i σ H, ⟨n, by simp, Nat.zero_le _, h0⟩, ?_⟩
  rintro i m σ H ⟨rfl, hi, p⟩
  by_cases hlt : i < n
  · exact .inr ⟨hgo i σ H hlt p, Pv (i + 1), fun σ' H' p' => ⟨n - (i + 1), by omega, rfl, hlt, p'⟩, fun x H' y => hs i x σ H H' hlt p y⟩
  · have e : i = n := by omega
    subst e
    exact .inl ⟨hst σ H p, hd σ H p⟩
end
section
variable {Γ : Gam} {X : Cx} {n : Nat}
theorem lc_readsG (ihE : IhE n) (ihT : IhT n) (c : CxOk Γ X) {tb : Bool} {tg iter elt : Expr} {ifs : List Expr} {scope : Scope} {own : List (Str × Nat)} {g : TG} {stt : D → Rho → Option Rho} {σ : St} {H : Hp} {Mo : AS} {C : CM} {ρ ρ1 ρe ρf : Rho} {items final : List D} {Q : VK}
    (E : Eok X.K Mo C none H σ ρ) (hb : blkC Γ.N Γ.sc scope own = true) (htb : tb = true → isTup tg = true)
    (hg : ∀ (s : Shared) (H : Hp) (C : Addr) (cl : List (Str × Addr)) (fp : List Addr), PG (X.blk s H scope (compEnvC scope cl C X.env) fp) tg g) (hst : TgOk Γ.np X.K g (own.map (·.2)) stt)
    (h1 : evIt tb Γ (ev n Γ false) iter ρ = some (items, ρ1)) (ho : ∀ i ∈ own.map (·.2), ∃ old, ρ1[i]? = some old ∧ ∀ l, old ≠ some (.cel l))
    (h2 : lcTurnsG stt (own.map (·.2)) (lcTest (fun c ρ => bF (ev n { Γ with sc := relS scope Γ.sc } true c ρ)) ifs) (ev n { Γ with sc := relS scope Γ.sc } false elt) items (wipeR ρ1 (own.map (·.2))) = some (final, ρe)) (hz : final.length ≤ line)
    (hf1 : ρf.length = ρe.length) (hfa : ∀ j v, j ∈ own.map (·.2) → ρf[j]? = some v → ρ1[j]? = some v) (hfb : ∀ j, j ∉ own.map (·.2) → ρf[j]? = ρe[j]?)
    (k : ∀ C' r v H', Eok X.K Mo C' r H' σ ρf → EnOk X.K Mo C' r H' v (.cel final) → Stp Γ.np C H C' r H' → Q v H') :
    ∃ wi tt te, LcParts X tg iter ifs elt scope wi g tt te own ∧ tLc wi g tt te (own.map (·.2)) σ H Q := by
  obtain ⟨wi, w1, w2⟩ := it_ok ihE c E h1
  have bo : BlkOk X.N X.env.scope scope own := by rw [c.nN, c.sc]; exact blkOk_by hb
  -- a comprehension has no test or one
  have tests : ∃ tt : TT, (∀ (s : Shared) (H : Hp) (C : Addr) (cl : List (Str × Addr)) (fp : List Addr), PTs (X.blk s H scope (compEnvC scope cl C X.env) fp) ifs tt) ∧
      ∀ (Mo : AS) (C : CM) (H : Hp) (σ : St) (ρ ρ' : Rho) (b : Bool) (Q : Bool → Hp → Prop), Eok X.K Mo C none H σ ρ → lcTest (fun c ρ => bF (ev n { Γ with sc := relS scope Γ.sc } true c ρ)) ifs ρ = some (b, ρ') → (∀ C' H', Eok X.K Mo C' none H' σ ρ' → Stp Γ.np C H C' none H' → Q b H') → tt σ H Q := by
    cases ifs with
    | nil => exact ⟨_, fun _ _ _ _ _ => pts_nil, fun Mo C H σ ρ ρ' b Q E h k => by cases h; exact k C H E Stp.refl⟩
    | cons c0 r => cases r with
      | nil => exact ⟨tT Γ.np X.K (fun ρ => bF (ev n { Γ with sc := relS scope Γ.sc } true c0 ρ)), fun s H C cl fp => pts_one (ihT { Γ with sc := relS scope Γ.sc } (X.blk s H scope (compEnvC scope cl C X.env) fp) (blk_ok c) c0), fun Mo C H σ ρ ρ' b Q E h k => ⟨Mo, C, ρ, b, ρ', E, h, k⟩⟩
      | cons c1 r => exact ⟨fun _ _ _ => False, fun s H C cl fp => ⟨fun _ _ _ _ _ _ h => h.elim⟩, fun Mo C H σ ρ ρ' b Q E h k => by cases h⟩
  obtain ⟨tt, t1, t2⟩ := tests
  refine ⟨wi, tt, tI Γ.np X.K (immF (ev n { Γ with sc := relS scope Γ.sc } false elt)), ⟨w1 _ htb, bo, hg, t1, fun s H C cl fp => (ihE { Γ with sc := relS scope Γ.sc } (X.blk s H scope (compEnvC scope cl C X.env) fp) (blk_ok c) elt).toI⟩, ?_⟩
  refine w2 _ fun C1 J H1 E1 S1 W1 => ?_
  intro D0 hD
  let vs : List Nat := own.map (·.2)
  -- the start
  obtain ⟨Ea, Sa, Ma⟩ := E1.grow (np := Γ.np) (H' := upd H1 D0 (.lst [])) (r' := some D0) (upd_grow hD) (fun a z => by cases z; exact hD)
  have nMo : ¬ Mo D0 := (Ea.rz D0 rfl).2
  obtain ⟨C1', Eb, Sb⟩ := (Ea.aside ⟨_, upd_same⟩).wipes (np := Γ.np) vs
  let σw : St := wipe σ vs
  let test : Rho → Option (Bool × Rho) := lcTest (fun c ρ => bF (ev n { Γ with sc := relS scope Γ.sc } true c ρ)) ifs
  let eltF : Rho → Option (En × Rho) := ev n { Γ with sc := relS scope Γ.sc } false elt
  have S10 : Stp Γ.np C1 H1 C1 none (upd H1 D0 (.lst [])) := ⟨fun a o h _ => upd_grow hD a o h, fun j a h => .inl ⟨j, h⟩, fun _ z => (nomatch z), fun _ _ _ h => h⟩
  have start : LcAt X.K Γ.np Mo C1 H1 σw stt vs D0 test eltF final ρe items (upd H1 D0 (.lst [])) :=
    ⟨C1', _, [], [], final, Eb, h2, rfl, upd_same, DsOk.nil, S10.trans Sb⟩
  -- what was there stays
  have mv : ∀ {H' C2}, Stp Γ.np C1 H1 C2 none H' → Mov (MM Mo C1 none) H1 (MM (AS.plus Mo D0) C2 none) H' := by
    intro H' C2 S a o h nm
    have nC : ∀ j, C1 j ≠ some a := fun j hj => nm (.inr (.inl ⟨j, hj⟩))
    refine ⟨S.keep a o h nC, ?_⟩
    rintro ((m | m) | ⟨j, m⟩ | m)
    · exact nm (.inl m)
    · rw [m, hD] at h; cases h
    · rcases S.new j a m with ⟨j', q⟩ | q
      · exact nC j' q
      · rw [h] at q; cases q
    · cases m
  -- one turn
  have turn : ∀ {d : D} {ds : List D} {j : Nat} {x : V} {Hc Hc' : Hp}, items[j]? = some d → J.yld j Hc x Hc' → LcAt X.K Γ.np Mo C1 H1 σw stt vs D0 test eltF final ρe (d :: ds) Hc →
      g x (wipe σ vs) Hc' fun σ2 H2 => wipe σ2 vs = wipe σ vs ∧ tt σ2 H2 fun b H3 =>
        if b = true then tI Γ.np X.K (immF eltF) σ2 H3 fun y' H4 => ∃ acc, H4 D0 = some (.lst acc) ∧ acc.length < sizeLine ∧ LcAt X.K Γ.np Mo C1 H1 σw stt vs D0 test eltF final ρe ds (upd H4 D0 (.lst (acc ++ [y'])))
        else LcAt X.K Γ.np Mo C1 H1 σw stt vs D0 test eltF final ρe ds H3 := by
    intro d ds j x Hc Hc' hj hy A
    obtain ⟨C2, ρi, acc, accV, rest, E2, hT, hF, hH, hV, S2⟩ := A.at_
    obtain ⟨E2', Sy, hx⟩ := W1.yld (np := Γ.np) hj (mv S2) E2 hy
    have S2' := S2.trans Sy
    have hH' : Hc' D0 = some (.lst accV) := Sy.keep D0 _ hH fun i hi => E2.apart i D0 hi (.inr rfl)
    have hV' : DsOk X.K (MM (AS.plus Mo D0) C2 none) Hc' acc accV := DsOk.mov (Sy.mov E2.out) _ _ hV
    unfold lcTurnsG at hT
    obtain ⟨ρ0, q0, hT⟩ := Option.bind_eq_some_iff.mp hT
    obtain ⟨p, q1, q2⟩ := Option.bind_eq_some_iff.mp hT
    refine hst.run E2' q0 hx fun C3 σ2 Es Ss hw => ?_
    have hw' : wipe σ2 vs = wipe σ vs := by rw [hw]; exact wipe_wipe σ vs
    refine ⟨hw', ?_⟩
    have hV0 : DsOk X.K (MM (AS.plus Mo D0) C3 none) Hc' acc accV := DsOk.mov (Ss.mov E2'.out) _ _ hV'
    refine t2 (AS.plus Mo D0) C3 Hc' _ _ p.2 p.1 _ Es q1 fun C4 H3 E3 S3 => ?_
    have S03 : Stp Γ.np C1 H1 C4 none H3 := S2'.trans (Ss.trans S3)
    have hH3 : H3 D0 = some (.lst accV) := by
      refine S3.keep D0 _ hH' fun i hi => ?_
      exact Es.apart i D0 hi (.inr rfl)
    have hV3 : DsOk X.K (MM (AS.plus Mo D0) C4 none) H3 acc accV := DsOk.mov (S3.mov Es.out) _ _ hV0
    cases hp : p.1 with
    | false =>
      rw [hp] at q2
      rw [if_neg (by simp)]
      obtain ⟨C5, E3w, S5⟩ := E3.wipes (np := Γ.np) vs
      rw [hw'] at E3w
      exact ⟨_, _, acc, accV, rest, E3w, by simpa using q2, hF, hH3, DsOk.mov (S5.mov E3.out) _ _ hV3, S03.trans S5⟩
    | true =>
      rw [hp] at q2
      rw [if_pos rfl]
      rw [if_pos rfl] at q2
      obtain ⟨q, q3, q4⟩ := Option.bind_eq_some_iff.mp q2
      obtain ⟨r, q5, q6⟩ := Option.bind_eq_some_iff.mp q4
      cases q6
      refine ⟨_, C4, p.2, q.1, q.2, E3, q3, fun C4' v H4 E4 d4 S4 => ?_⟩
      have hH4 : H4 D0 = some (.lst accV) := S4.keep D0 _ hH3 fun j hj => E3.apart j D0 hj (.inr rfl)
      have hV4 : DsOk X.K (MM (AS.plus Mo D0) C4' none) H4 acc accV := DsOk.mov (S4.mov E3.out) _ _ hV3
      have len4 : accV.length < sizeLine := by
        rw [hV4.len]
        refine line_lt ?_
        have := congrArg List.length hF
        simp at this
        omega
      refine ⟨accV, hH4, len4, ?_⟩
      obtain ⟨E5, M5⟩ := E4.writeAside (o := .lst (accV ++ [v])) (D0 := D0) (.inr rfl)
      obtain ⟨C5, E5w, S5⟩ := E5.wipes (np := Γ.np) vs
      rw [hw'] at E5w
      have S05 : Stp Γ.np C1 H1 C4' none (upd H4 D0 (.lst (accV ++ [v]))) := by
        have S04 := S03.trans S4
        exact ⟨fun a o h nc => by rw [upd_ne (ne_of_none h hD)]; exact S04.keep a o h nc, S04.new, fun _ z => (nomatch z), S04.par⟩
      refine ⟨_, _, acc ++ [q.1], accV ++ [v], r.1, E5w, q5, by rw [← hF]; simp, upd_same, ?_, S05.trans S5⟩
      exact DsOk.mov (S5.mov E5.out) _ _ (DsOk.mov M5 _ _ (DsOk.app hV4 (DsOk.cons d4 DsOk.nil)))
  -- the end
  have done : ∀ {Hc : Hp}, LcAt X.K Γ.np Mo C1 H1 σw stt vs D0 test eltF final ρe [] Hc → Q (.ref D0) Hc := by
    intro Hc A
    obtain ⟨C2, ρi, acc, accV, rest, E2, hT, hF, hH, hV, S2⟩ := A.at_
    unfold lcTurnsG at hT
    cases hT
    rw [List.append_nil] at hF
    subst hF
    have E3 := E2.unaside nMo
    have lenσ : σ.length = ρe.length := by
      have := E3.len
      rwa [show σw.length = σ.length from wipe_length σ vs] at this
    have m3 : Mov (MM (AS.plus Mo D0) C2 none) Hc (MM Mo C2 (some D0)) Hc := mov_iff fun a => (mm_plus a).mpr
    -- nothing stands in the slots
    have nslot : ∀ (i : Nat), i ∈ vs → ∀ (en : En), ρe[i]? = some (some en) → False := by
      intro i hi en he
      have hl : i < σ.length := by rw [lenσ]; exact (List.getElem?_eq_some_iff.mp he).1
      have hs : σw[i]? = some none := by show (wipe σ vs)[i]? = _; rw [wipe_get, if_pos ⟨hi, hl⟩]
      cases en with
      | imm d =>
        obtain ⟨v, z, _⟩ := E3.imm i d he
        rw [hs] at z; cases z
      | cel l =>
        obtain ⟨a, xs, _, z, _⟩ := E3.cel i l he
        rw [hs] at z; cases z
    have nσ : ∀ j, j ∉ vs → σw[j]? = σ[j]? := fun j hj => by show (wipe σ vs)[j]? = _; rw [wipe_get, if_neg (fun z => hj z.1)]
    have back : Eok X.K Mo C2 (some D0) Hc σ ρf := by
      refine ⟨by rw [hf1]; exact lenσ, fun j d e => ?_, fun j l e => ?_, fun j a h => ?_, E3.inj, E3.out, E3.apart, E3.rz⟩
      · by_cases z : j ∈ vs
        · have e := hfa j _ z e
          obtain ⟨v, z1, z2⟩ := E1.imm j d e
          exact ⟨v, z1, DOk.mov m3 _ _ (DOk.mov (mv S2) _ _ z2)⟩
        · rw [hfb j z] at e
          obtain ⟨v, z1, z2⟩ := E3.imm j d e
          exact ⟨v, by rw [← nσ j z]; exact z1, z2⟩
      · by_cases z : j ∈ vs
        · have e := hfa j _ z e
          obtain ⟨old, q1, q2⟩ := ho j z
          rw [q1] at e
          exact (q2 l (Option.some.inj e)).elim
        · rw [hfb j z] at e
          obtain ⟨a, xs, z1, z2, z3, z4⟩ := E3.cel j l e
          exact ⟨a, xs, z1, by rw [← nσ j z]; exact z2, z3, z4⟩
      · obtain ⟨l, q⟩ := E3.only j a h
        by_cases z : j ∈ vs
        · exact (nslot j z _ q).elim
        · exact ⟨l, by rw [hfb j z]; exact q⟩
    refine k C2 (some D0) _ Hc back ⟨D0, accV, rfl, rfl, hH, DsOk.mov m3 _ _ hV⟩ (S1.trans ⟨S2.keep, S2.new, fun a z => by cases z; exact .inr hD, S2.par⟩)
  -- the walk
  refine lc_gen (n := items.length) (fun j Hc => LcAt X.K Γ.np Mo C1 H1 σw stt vs D0 test eltF final ρe (items.drop j) Hc) start (fun j Hc hj A => ?_) (fun Hc A => ?_) (fun j x Hc Hc' hj A y => ?_) (fun Hc A => ?_)
  · obtain ⟨C2, _, _, _, _, _, _, _, _, _, S2⟩ := A.at_
    exact W1.go j hj (mv S2)
  · obtain ⟨C2, _, _, _, _, _, _, _, _, _, S2⟩ := A.at_
    exact W1.stop (mv S2)
  · have hd : items.drop j = items[j] :: items.drop (j + 1) := List.drop_eq_getElem_cons hj
    rw [hd] at A
    exact turn (by simp [hj]) y A
  · rw [List.drop_length] at A
    exact done A
theorem tg_name {np : Nat} {K : Frg} {i : Nat} : TgOk np K (gName i) [i] (fun d ρ => some (ρ.set i (some (.imm d)))) where
  run := fun {Mo C H σ ρ ρ1 x d Q} E h hx k => by
    cases h
    refine k _ _ (E.store hx) off_stp ?_
    show (σ.set i (some x)).set i none = σ.set i none
    rw [List.set_set]
/-- the stores of names in a row -/
def gNames : List Nat → TGs
  | [] => gNil
  | i :: is => gCons (gName i) (gNames is)
theorem names_run {np : Nat} {K : Frg} : ∀ {is : List Nat} {l : List D} {xs : List V} {Mo : AS} {C : CM} {H : Hp} {σ : St} {ρ ρ1 : Rho} {Q : St → Hp → Prop}, Eok K Mo C none H σ ρ → stAll is l ρ = some ρ1 → DsOk K (MM Mo C none) H l xs →
    (∀ C' σ', Eok K Mo C' none H σ' ρ1 → Stp np C H C' none H → σ'.length = σ.length → (∀ j, j ∉ is → σ'[j]? = σ[j]?) → Q σ' H) → gNames is xs σ H Q
  | [], [], xs, Mo, C, H, σ, ρ, ρ1, Q, E, h, hd, k => by
    unfold DsOk at hd
    subst hd
    cases h
    exact ⟨rfl, k C σ E Stp.refl rfl fun _ _ => rfl⟩
  | i :: is, d :: l, xs, Mo, C, H, σ, ρ, ρ1, Q, E, h, hd, k => by
    unfold DsOk at hd
    obtain ⟨x, r, rfl, h1, h2⟩ := hd
    refine ⟨x, r, rfl, ?_⟩
    have E' := E.store (i := i) h1
    have S : Stp np C H (CM.off C i) none H := off_stp
    refine names_run (np := np) E' h (DsOk.mov (S.mov E.out) _ _ h2) fun C' σ' E'' S' hl hj => ?_
    refine k C' σ' E'' (S.trans S') (by rw [hl]; simp) fun j hn => ?_
    rw [hj j (fun z => hn (List.mem_cons_of_mem _ z)), List.getElem?_set_ne (fun z => hn (by rw [z]; exact List.mem_cons_self))]
  | [], _ :: _, _, _, _, _, _, _, _, _, _, h, _, _ => by cases h
  | _ :: _, [], _, _, _, _, _, _, _, _, _, h, _, _ => by cases h
theorem stAll_len : ∀ {is : List Nat} {l : List D} {ρ ρ1 : Rho}, stAll is l ρ = some ρ1 → l.length = is.length
  | [], [], _, _, _ => rfl
  | i :: is, d :: l, ρ, ρ1, h => by simp [stAll_len (is := is) (l := l) h]
  | [], _ :: _, _, _, h => by cases h
  | _ :: _, [], _, _, h => by cases h
theorem tg_tup {np : Nat} {K : Frg} {is : List Nat} : TgOk np K (gTup K is.length (gNames is)) is (stTup is) where
  run := fun {Mo C H σ ρ ρ1 x d Q} E h hx k => by
    cases d with
    | tup l =>
      obtain ⟨a, xs, rfl, t, r⟩ := dTup.mp hx
      have h : stAll is l ρ = some ρ1 := h
      refine ⟨a, xs, rfl, t.sq, by rw [r.len, stAll_len h], names_run E h r fun C' σ' E' S' hl hj => k C' σ' E' S' ?_⟩
      apply List.ext_getElem?
      intro j
      rw [wipe_get, wipe_get, hl]
      by_cases q : j ∈ is
      · by_cases q2 : j < σ.length
        · rw [if_pos ⟨q, q2⟩, if_pos ⟨q, q2⟩]
        · rw [if_neg (fun z => q2 z.2), if_neg (fun z => q2 z.2), List.getElem?_eq_none (by omega), List.getElem?_eq_none (by omega)]
      · rw [if_neg (fun z => q z.1), if_neg (fun z => q z.1), hj j q]
    | non => cases h
    | bl _ => cases h
    | int _ => cases h
    | str _ => cases h
    | lst _ => cases h
theorem lc_reads (ihE : IhE n) (ihT : IhT n) (c : CxOk Γ X) {y : Str} {yp : Pos} {iter elt : Expr} {ifs : List Expr} {scope : Scope} {i : Nat} {σ : St} {H : Hp} {Mo : AS} {C : CM} {ρ ρ1 ρe : Rho} {items : List D} {old : Option En} {final : List D} {Q : VK}
    (E : Eok X.K Mo C none H σ ρ) (hi : ixOf Γ.N y = some i) (hb : blkC Γ.N Γ.sc scope [(y, i)] = true) (hl : locB (relS scope Γ.sc) y = true) (hc : scope.names.lookup y = some .cell ∨ (relS scope Γ.sc).names.lookup y = some .local)
    (h1 : evIt false Γ (ev n Γ false) iter ρ = some (items, ρ1)) (ho : ρ1[i]? = some old) (hold : ∀ l, old ≠ some (.cel l))
    (h2 : lcTurns (lcTest (fun c ρ => bF (ev n { Γ with sc := relS scope Γ.sc } true c ρ)) ifs) (ev n { Γ with sc := relS scope Γ.sc } false elt) i items (ρ1.set i none) = some (final, ρe)) (hz : final.length ≤ line)
    (k : ∀ C' r v H', Eok X.K Mo C' r H' σ (ρe.set i old) → EnOk X.K Mo C' r H' v (.cel final) → Stp Γ.np C H C' r H' → Q v H') :
    ∃ wi g tt te own, LcParts X (.Name y yp) iter ifs elt scope wi g tt te own ∧ tLc wi g tt te (own.map (·.2)) σ H Q := by
  have hN : X.N[i]? = some y := by rw [c.nN]; exact ixOf_get hi
  have hloc : Loc (relS scope Γ.sc) y := by
    unfold locB at hl
    split at hl
    · exact .inl (by assumption)
    · exact .inr (by assumption)
    · cases hl
  rw [lcTurns_G] at h2
  obtain ⟨wi, tt, te, P, R⟩ := lc_readsG (Q := Q) (tb := false) (tg := .Name y yp) (own := [(y, i)]) (g := gName i) (stt := fun d ρ => some (ρ.set i (some (.imm d)))) (ρf := ρe.set i old) ihE ihT c E hb (fun h => by cases h) (fun s H C cl fp => by
      refine pg_name (X := X.blk s H scope (compEnvC scope cl C X.env) fp) (by show X.N.Nodup; rw [c.nN]; exact c.nd) hN (by show Loc (relS scope X.env.scope) y; rw [c.sc]; exact hloc) ?_
      rcases hc with hc | hc
      · exact .inl (by show (scope.names.lookup y == some .cell) = true; rw [hc]; rfl)
      · exact .inr (by show (relS scope X.env.scope).names.lookup y = _; rw [c.sc]; exact hc)) tg_name h1
    (fun j hj => by
      have : j = i := by simpa using hj
      subst this
      exact ⟨old, ho, hold⟩) h2 hz (by simp) (fun j v hj e => by
      have : j = i := by simpa using hj
      subst this
      have hl : j < ρe.length := by
        have := (List.getElem?_eq_some_iff.mp e).1
        simpa using this
      rw [List.getElem?_set_self hl] at e
      cases e
      exact ho) (fun j hj => by
      have : i ≠ j := by intro z; subst z; simp at hj
      rw [List.getElem?_set_ne this]) k
  exact ⟨wi, _, tt, te, _, P, R⟩
theorem lcTurnsG_none {st : D → Rho → Option Rho} {vs : List Nat} {test : Rho → Option (Bool × Rho)} {elt : Rho → Option (En × Rho)} : ∀ {ds : List D} {ρ ρ' : Rho} {r : List D}, lcTurnsG st vs test elt ds ρ = some (r, ρ') → (∀ j v, j ∈ vs → ρ[j]? = some v → v = none) → ∀ j v, j ∈ vs → ρ'[j]? = some v → v = none
  | [], ρ, ρ', r, h, h0 => by cases h; exact h0
  | d :: ds, ρ, ρ', r, h, h0 => by
    have hw : ∀ (ρ : Rho) j v, j ∈ vs → (wipeR ρ vs)[j]? = some v → v = none := fun ρ j v hj e => by
      rw [wipeR_get] at e
      split at e
      · cases e; rfl
      · rename_i q
        have : ρ.length ≤ j := by
          by_cases z : j < ρ.length
          · exact (q ⟨hj, z⟩).elim
          · omega
        rw [List.getElem?_eq_none this] at e
        cases e
    unfold lcTurnsG at h
    obtain ⟨ρ0, _, h⟩ := Option.bind_eq_some_iff.mp h
    obtain ⟨p, _, h⟩ := Option.bind_eq_some_iff.mp h
    split at h
    · obtain ⟨q, _, h⟩ := Option.bind_eq_some_iff.mp h
      obtain ⟨r', h1, h2⟩ := Option.bind_eq_some_iff.mp h
      cases h2
      exact lcTurnsG_none h1 (hw _)
    · exact lcTurnsG_none h (hw _)
/-- .. with a tuple as its target -/
theorem lc_readsT (ihE : IhE n) (ihT : IhT n) (c : CxOk Γ X) {ts : List Expr} {tk : Nat} {tp : Pos} {iter elt : Expr} {ifs : List Expr} {scope : Scope} {own : List (Str × Nat)} {σ : St} {H : Hp} {Mo : AS} {C : CM} {ρ ρ1 ρe : Rho} {items : List D} {final : List D} {Q : VK}
    (E : Eok X.K Mo C none H σ ρ) (hi : tsIx Γ.N ts = some own) (hb : blkC Γ.N Γ.sc scope own = true) (hl : own.all (fun y => locB (relS scope Γ.sc) y.1 && (decide (scope.names.lookup y.1 = some .cell) || decide ((relS scope Γ.sc).names.lookup y.1 = some .local))) = true)
    (h1 : evIt true Γ (ev n Γ false) iter ρ = some (items, ρ1)) (ho : (own.map (·.2)).all (fun i => match ρ1[i]? with | some none => true | _ => false) = true)
    (h2 : lcTurnsG (stTup (own.map (·.2))) (own.map (·.2)) (lcTest (fun c ρ => bF (ev n { Γ with sc := relS scope Γ.sc } true c ρ)) ifs) (ev n { Γ with sc := relS scope Γ.sc } false elt) items ρ1 = some (final, ρe)) (hz : final.length ≤ line)
    (k : ∀ C' r v H', Eok X.K Mo C' r H' σ ρe → EnOk X.K Mo C' r H' v (.cel final) → Stp Γ.np C H C' r H' → Q v H') :
    ∃ wi g tt te own, LcParts X (.Tuple ts tk tp) iter ifs elt scope wi g tt te own ∧ tLc wi g tt te (own.map (·.2)) σ H Q := by
  have ho' : ∀ i ∈ own.map (·.2), ρ1[i]? = some none := fun i hi => by
    have := List.all_eq_true.mp ho i hi
    split at this
    · assumption
    · cases this
  have hw : wipeR ρ1 (own.map (·.2)) = ρ1 := by
    apply List.ext_getElem?
    intro j
    rw [wipeR_get]
    split
    · rename_i q; rw [ho' j q.1]
    · rfl
  have pgs : ∀ (s : Shared) (H : Hp) (C : Addr) (cl : List (Str × Addr)) (fp : List Addr) (ts : List Expr) (own' : List (Str × Nat)), tsIx Γ.N ts = some own' → (∀ p ∈ own', p ∈ own) →
      PGs (X.blk s H scope (compEnvC scope cl C X.env) fp) ts (gNames (own'.map (·.2))) ∧ (assignEach ts (compEnvC scope cl C X.env)).length = (own'.map (·.2)).length ∧ (assignEach ts (compEnvC scope cl C X.env)).findIdx? (·.1) = none := by
    intro s H C cl fp ts
    induction ts with
    | nil => intro own' h _; cases h; exact ⟨pgs_nil, rfl, rfl⟩
    | cons t r ih =>
      intro own' h hs
      cases t with
      | Name x p =>
        obtain ⟨i, h1, h2⟩ := Option.bind_eq_some_iff.mp h
        obtain ⟨q, h3, h4⟩ := Option.bind_eq_some_iff.mp h2
        cases h4
        obtain ⟨z1, z2, z3⟩ := ih q h3 fun p hp => hs p (List.mem_cons_of_mem _ hp)
        have hx := List.all_eq_true.mp hl (x, i) (hs _ List.mem_cons_self)
        rw [Bool.and_eq_true, Bool.or_eq_true, decide_eq_true_eq, decide_eq_true_eq] at hx
        have hloc : Loc (relS scope Γ.sc) x := by
          have := hx.1
          unfold locB at this
          split at this
          · exact .inl (by assumption)
          · exact .inr (by assumption)
          · cases this
        refine ⟨pgs_cons (pg_name (X := X.blk s H scope (compEnvC scope cl C X.env) fp) (by show X.N.Nodup; rw [c.nN]; exact c.nd) (by show X.N[i]? = some x; rw [c.nN]; exact ixOf_get h1) (by show Loc (relS scope X.env.scope) x; rw [c.sc]; exact hloc) ?_) z1, ?_, ?_⟩
        · rcases hx.2 with hc | hc
          · exact .inl (by show (scope.names.lookup x == some .cell) = true; rw [hc]; rfl)
          · exact .inr (by show (relS scope X.env.scope).names.lookup x = _; rw [c.sc]; exact hc)
        · show (assignEach r _).length + 1 = _
          rw [z2]
          simp
        · have e : assignEach (.Name x p :: r) (compEnvC scope cl C X.env) = (false, assign (.Name x p) (compEnvC scope cl C X.env)) :: assignEach r (compEnvC scope cl C X.env) := rfl
          rw [e, List.findIdx?_cons]
          simp [z3]
      | _ => cases h
  obtain ⟨wi, tt, te, P, R⟩ := lc_readsG (Q := Q) (tb := true) (tg := .Tuple ts tk tp) (own := own) (g := gTup X.K (own.map (·.2)).length (gNames (own.map (·.2)))) (stt := stTup (own.map (·.2))) (ρf := ρe) ihE ihT c E hb (fun _ => rfl) (fun s H C cl fp => by
      obtain ⟨z1, z2, z3⟩ := pgs s H C cl fp ts own hi fun _ h => h
      exact pg_tup (X := X.blk s H scope (compEnvC scope cl C X.env) fp) c.calm z1 z2 z3) tg_tup h1
    (fun j hj => ⟨none, ho' j hj, fun _ z => by cases z⟩) (by rw [hw]; exact h2) hz rfl (fun j v hj e => by rw [lcTurnsG_none h2 (fun j v hj e => by rw [ho' j hj] at e; cases e; rfl) j v hj e]; exact ho' j hj) (fun j hj => rfl) k
  exact ⟨wi, _, tt, te, _, P, R⟩
end
end Mx
set_option maxHeartbeats 400000
namespace Mx
open PySem L2

/-! ## Types -/
theorem tyX_of {K : Frg} {M : AS} {H : Hp} {d : D} {v : V} (h : DOk K M H d v) : TyX K H v (.type (tyNameD d)) := by
  cases d with
  | non => rw [dNon] at h; subst h; exact .base .non
  | bl b => rw [dBl] at h; subst h; exact .base (.bl b)
  | int i => rw [dInt] at h; subst h; exact .base (.int i)
  | str x => rw [dStr] at h; subst h; exact .base (.str x)
  | tup l =>
    obtain ⟨a, xs, rfl, t, _⟩ := dTup.mp h
    rcases t with ⟨t | ⟨o, t⟩, _⟩ | t
    · exact .base (.tup t)
    · exact .fTuple t
    · rcases t with t | ⟨o, its, n, h1, h2, _⟩
      · exact (rd_none t).elim
      · exact .kTuple h1 h2
  | lst l =>
    obtain ⟨a, xs, rfl, t, _⟩ := dLst.mp h
    rcases t with ⟨t | ⟨o, t⟩, _⟩ | t
    · exact .base (.lst t)
    · exact .base (.frz t)
    · rcases t with t | ⟨o, its, n, h1, h2, _⟩
      · exact (rd_none t).elim
      · exact .kList h1 h2
theorem tyB_boot {T : Str} {s : String} (h : tyB.lookup T = some s) : bootBuiltins T = some (.type s) ∧ ∀ s' : Shared, s'.TypeIs (.type s) "type" := by
  unfold tyB at h
  simp only [List.lookup_cons] at h
  split at h
  · rename_i e
    have : T = "int" := by simpa using e
    subst this; cases h
    exact ⟨by decide +kernel, TypeEq.meta_int⟩
  · split at h
    · rename_i e
      have : T = "bool" := by simpa using e
      subst this; cases h
      exact ⟨by decide +kernel, TypeEq.meta_bool⟩
    · split at h
      · rename_i e
        have : T = "str" := by simpa using e
        subst this; cases h
        exact ⟨by decide +kernel, TypeEq.meta_str⟩
      · split at h
        · rename_i e
          have : T = "tuple" := by simpa using e
          subst this; cases h
          exact ⟨by decide +kernel, TypeEq.meta_tuple⟩
        · split at h
          · rename_i e
            have : T = "list" := by simpa using e
            subst this; cases h
            exact ⟨by decide +kernel, TypeEq.meta_list⟩
          · cases h
theorem ty_meta (d : D) : ∀ s' : Shared, s'.TypeIs (.type (tyNameD d)) "type" := by
  cases d with
  | non => exact TypeEq.meta_NoneType
  | bl b => exact TypeEq.meta_bool
  | int i => exact TypeEq.meta_int
  | str x => exact TypeEq.meta_str
  | tup l => exact TypeEq.meta_tuple
  | lst l => exact TypeEq.meta_list
theorem ty_notbf (d : D) : (Value.type (tyNameD d) == Value.type "builtin_function_or_method") = false := by
  cases d with
  | non => exact (by decide +kernel : (Value.type "NoneType" == Value.type "builtin_function_or_method") = false)
  | bl _ => exact (by decide +kernel : (Value.type "bool" == Value.type "builtin_function_or_method") = false)
  | int _ => exact (by decide +kernel : (Value.type "int" == Value.type "builtin_function_or_method") = false)
  | str _ => exact (by decide +kernel : (Value.type "str" == Value.type "builtin_function_or_method") = false)
  | tup _ => exact (by decide +kernel : (Value.type "tuple" == Value.type "builtin_function_or_method") = false)
  | lst _ => exact (by decide +kernel : (Value.type "list" == Value.type "builtin_function_or_method") = false)
section
variable {X : Cx}
theorem call_typeX : CallR X (.type "type") (fun xs H Q => ∃ v d M, xs = [v] ∧ DOk X.K M H d v ∧ Q (.ty (tyNameD d)) H) := by
  intro pins s σ H xs us Q I r h
  obtain ⟨v, d, M, rfl, hd, q⟩ := h
  obtain ⟨u, rfl, rv⟩ := vals1 r
  have ty : s.TypeIs u (tyNameD d) := by
    cases d with
    | non => rw [dNon] at hd; subst hd; cases rv; exact typeIs_none s
    | bl b => rw [dBl] at hd; subst hd; cases rv; exact typeIs_bool s b
    | int i => rw [dInt] at hd; subst hd; obtain ⟨t, rfl⟩ := rv; exact typeIs_int s i t
    | str x => rw [dStr] at hd; subst hd; obtain ⟨t, rfl⟩ := rv; exact typeIs_str s x t
    | tup l =>
      obtain ⟨a, ys, rfl, t, _⟩ := dTup.mp hd
      cases rv
      obtain ⟨its, _, p, _⟩ := I.tuple t.sq
      exact p.typeIs
    | lst l =>
      obtain ⟨a, ys, rfl, t, _⟩ := dLst.mp hd
      cases rv
      obtain ⟨its, _, p, _⟩ := I.list t.sq
      exact p.isList.typeIs
  exact call_type_of ty (ty_notbf d) ⟨.ty _, H, I, rfl, q⟩
theorem op_tyEq : OpR X (compareOp .Eq) (fun x y H Q => ∃ a b : String, x = .ty a ∧ y = .ty b ∧ (∀ s' : Shared, s'.TypeIs (.type a) "type") ∧ (∀ s' : Shared, s'.TypeIs (.type b) "type") ∧ Q (.bl (a == b)) H) := by
  intro pins s σ H x y v u Q I rx ry h
  obtain ⟨a, b, rfl, rfl, ha, hb, q⟩ := h
  cases rx
  cases ry
  by_cases e : a = b
  · subst e
    refine TypeEq.eq_type_same ha ⟨.bl true, H, I, rfl, ?_⟩
    simpa using q
  · have ne : (Value.type a == Value.type b) = false := by
      rw [beq_eq_false_iff_ne]
      intro z
      exact e (Value.type.inj z)
    refine TypeEq.eq_type_other ha hb ne ⟨.bl false, H, I, rfl, ?_⟩
    rw [beq_eq_false_iff_ne.mpr e] at q
    exact q
end

/-! ## Items and slices -/
section
variable {X : Cx} {Mo : AS} {C : CM} {H : Hp} {σ : St} {ρ : Rho} {np : Nat}
theorem plain_ix {i : Expr} (h : isSlice i = false) : PlainIx i := by
  intro o v
  cases i <;> first | rfl | cases h
theorem atI_ds {M : AS} {l : List D} {xs : List V} {i : Int} {d : D} (h : DsOk X.K M H l xs) (e : atI l i = some d) : ∃ v, atI xs i = some v ∧ DOk X.K M H d v := by
  unfold atI at e ⊢
  obtain ⟨j, h1, h2⟩ := Option.bind_eq_some_iff.mp e
  obtain ⟨v, z1, z2⟩ := h.get h2
  exact ⟨v, by rw [h.len, h1]; exact z1, z2⟩
def ixAny (X : Cx) : R2 := fun x y H Q => ∃ r : R2, IxR X r ∧ r x y H Q
theorem ix_any : IxR X (ixAny X) := by
  intro value slice pins s σ H x y v u Q I rx ry h hs
  obtain ⟨r, ho, q⟩ := h
  exact ho value slice pins s σ H x y v u Q I rx ry q hs
def slAny (X : Cx) : V → Option Int → Option Int → Hp → VK → Prop := fun x lo hi H Q => ∃ r, SlR X r ∧ r x lo hi H Q
theorem sl_any : SlR X (slAny X) := by
  intro pins s σ H x v vl vu lo hi sl Q I rx h1 h2 h3 h
  obtain ⟨r, ho, q⟩ := h
  exact ho pins s σ H x v vl vu lo hi sl Q I rx h1 h2 h3 q
theorem ixD_ok {d d' : D} {j : Int} {v : V} {Q : VK} (h : ixD d j = some d') (hd : DOk X.K (MM Mo C none) H d v) (k : ∀ w, DOk X.K (MM Mo C none) H d' w → Q w H) : ixAny X v (.int j) H Q := by
  cases d with
  | lst l =>
    obtain ⟨a, xs, rfl, t, r⟩ := dLst.mp hd
    obtain ⟨w, z1, z2⟩ := atI_ds r h
    exact ⟨_, ix_list, a, xs, j, w, rfl, rfl, t.sq, z1, k w z2⟩
  | tup l =>
    obtain ⟨a, xs, rfl, t, r⟩ := dTup.mp hd
    obtain ⟨w, z1, z2⟩ := atI_ds r h
    exact ⟨_, ix_tup, a, xs, j, w, rfl, rfl, t.sq, z1, k w z2⟩
  | str z =>
    rw [dStr] at hd
    subst hd
    have h : (if z.length ≤ line then (atI z.cps.toList j).map fun c => D.str ⟨#[c]⟩ else none) = some d' := h
    split at h
    · rename_i hz
      obtain ⟨c, z1, z2⟩ := Option.map_eq_some_iff.mp h
      subst z2
      exact ⟨_, ix_str, z, j, c, rfl, rfl, by rw [line_eq]; exact hz, z1, k _ (dStr.mpr rfl)⟩
    · cases h
  | non => cases h
  | bl _ => cases h
  | int _ => cases h
theorem cut_ds {M : AS} {l : List D} {xs : List V} {lo hi : Option Int} (h : DsOk X.K M H l xs) : DsOk X.K M H (cutL l lo hi) (cutV xs lo hi) := by
  unfold cutL cutV
  rw [h.len]
  exact DsOk.take _ (DsOk.drop _ h)
theorem slD_ok {d : D} {e : En} {lo hi : Option Int} {v : V} {Q : VK} (h : slD d lo hi = some e) (E : Eok X.K Mo C none H σ ρ) (hd : DOk X.K (MM Mo C none) H d v)
    (k : ∀ C' r w H', Eok X.K Mo C' r H' σ ρ → EnOk X.K Mo C' r H' w e → Stp np C H C' r H' → Q w H') : slAny X v lo hi H Q := by
  cases d with
  | tup l =>
    cases h
    obtain ⟨a, xs, rfl, t, r⟩ := dTup.mp hd
    refine ⟨_, sl_tupA, a, xs, rfl, t.sq, fun hw => ?_, fun _ p hp => new_tup E (cut_ds r) hp k⟩
    have : cutL l lo hi = l := by
      unfold cutL
      rw [r.len] at hw
      rw [hw.1, hw.2]
      simp
    refine k C none _ H E ⟨rfl, ?_⟩ Stp.refl
    rw [this]
    exact hd
  | lst l =>
    cases h
    obtain ⟨a, xs, rfl, t, r⟩ := dLst.mp hd
    exact ⟨_, sl_list, a, xs, rfl, t.sq, fun p hp => new_lst E (cut_ds r) hp k⟩
  | str z =>
    rw [dStr] at hd
    subst hd
    have h : (if z.length ≤ line then some (En.imm (.str (cutS z lo hi))) else none) = some e := h
    split at h
    · rename_i hz
      cases h
      exact ⟨_, sl_str, z, rfl, by rw [line_eq]; exact hz, k C none _ H E ⟨rfl, dStr.mpr rfl⟩ Stp.refl⟩
    · cases h
  | non => cases h
  | bl _ => cases h
  | int _ => cases h
def tO (np : Nat) (K : Frg) (F : Rho → Option (Option Int × Rho)) : TO := fun σ H Q => ∃ Mo C ρ d ρ', Eok K Mo C none H σ ρ ∧ F ρ = some (d, ρ') ∧
  ∀ C' H', Eok K Mo C' none H' σ ρ' → Stp np C H C' none H' → Q d H'
theorem evO_ok {ev' : Expr → Rho → Option (En × Rho)} (hev : ∀ e, PE X e (tD np X.K (ev' e))) (o : Option Expr) {Q : Option Int → Hp → Prop} {q : Option Int} {ρ' : Rho} (E : Eok X.K Mo C none H σ ρ) (h : evO ev' o ρ = some (q, ρ'))
    (k : ∀ C' H', Eok X.K Mo C' none H' σ ρ' → Stp np C H C' none H' → Q q H') : ∃ t, PO X o t ∧ t σ H Q ∧ True := by
  cases o with
  | none => cases h; exact ⟨_, po_none, k C H E Stp.refl, trivial⟩
  | some e =>
    unfold evO at h
    obtain ⟨p, h1, h2⟩ := Option.bind_eq_some_iff.mp h
    obtain ⟨d, ρ1⟩ := p
    cases d with
    | int i =>
      cases h2
      refine ⟨_, po_some (hev e).toI, ⟨Mo, C, ρ, _, _, E, h1, fun C' v H' E' d' S' => ?_⟩, trivial⟩
      rw [dInt] at d'
      subst d'
      exact ⟨i, rfl, k C' H' E' S'⟩
    | non => cases h2
    | bl _ => cases h2
    | str _ => cases h2
    | lst _ => cases h2
    | tup _ => cases h2
end
theorem bF_some {o : Option (En × Rho)} {b : Bool} {ρ : Rho} (h : bF o = some (b, ρ)) : o = some (.imm (.bl b), ρ) := by
  unfold bF at h
  split at h
  · cases h; rfl
  · cases h

/-! ## and, or -/
section
variable {X : Cx} {np : Nat} {pos : Pos}
theorem evBw_pe {evb : Expr → Rho → Option (En × Rho)} (hev : ∀ e, PE X e (tD np X.K (evb e))) {op : BoolOp} : ∀ (vs : List Expr), PE X (.BoolOp op vs pos) (tD np X.K fun ρ => (evBw (fun a ρ => bF (evb a ρ)) op vs ρ).bind fun p => some (.imm (.bl p.1), p.2))
  | [] => by
    refine PE.of fun σ H Q h => ?_
    obtain ⟨Mo, C, ρ, e, ρ', E, hF, k⟩ := h
    cases hF
  | [a] => by
    refine PE.of fun σ H Q h => ?_
    obtain ⟨Mo, C, ρ, e, ρ', E, hF, k⟩ := h
    obtain ⟨p, h1, h2⟩ := Option.bind_eq_some_iff.mp hF
    cases h2
    unfold evBw at h1
    obtain ⟨p', h3, h4⟩ := Option.bind_eq_some_iff.mp h1
    cases h4
    exact ⟨_, pe_one (hev a), Mo, C, ρ, _, _, E, bF_some h3, k⟩
  | a :: b :: r => by
    refine PE.of fun σ H Q h => ?_
    obtain ⟨Mo, C, ρ, e, ρ', E, hF, k⟩ := h
    obtain ⟨p, h1, h2⟩ := Option.bind_eq_some_iff.mp hF
    cases h2
    unfold evBw at h1
    obtain ⟨p', h3, h4⟩ := Option.bind_eq_some_iff.mp h1
    obtain ⟨c, ρ1⟩ := p'
    have go : ∀ {C1 : CM} {H1 : Hp}, Eok X.K Mo C1 none H1 σ ρ1 → Stp np C H C1 none H1 → evBw (fun a ρ => bF (evb a ρ)) op (b :: r) ρ1 = some p → tD np X.K (fun ρ => (evBw (fun a ρ => bF (evb a ρ)) op (b :: r) ρ).bind fun p => some (.imm (.bl p.1), p.2)) σ H1 Q :=
      fun E1 S1 h => ⟨Mo, _, ρ1, _, _, E1, Option.bind_eq_some_iff.mpr ⟨p, h, rfl⟩, fun C' r v H' E' o' S' => k C' r v H' E' o' (S1.trans S')⟩
    cases op with
    | And =>
      refine ⟨_, pe_and (hev a).toI (evBw_pe hev (b :: r)), Mo, C, ρ, .bl c, ρ1, E, by unfold immF; rw [bF_some h3]; rfl, fun C1 v H1 E1 d1 S1 => ?_⟩
      rw [dBl] at d1
      subst d1
      refine ⟨c, rfl, ?_⟩
      cases c with
      | true => rw [if_pos rfl]; exact go E1 S1 h4
      | false =>
        rw [if_neg (by simp)]
        cases h4
        exact k C1 none _ H1 E1 ⟨rfl, dBl.mpr rfl⟩ S1
    | Or =>
      refine ⟨_, pe_or (hev a).toI (evBw_pe hev (b :: r)), Mo, C, ρ, .bl c, ρ1, E, by unfold immF; rw [bF_some h3]; rfl, fun C1 v H1 E1 d1 S1 => ?_⟩
      rw [dBl] at d1
      subst d1
      refine ⟨c, rfl, ?_⟩
      cases c with
      | true =>
        rw [if_pos rfl]
        cases h4
        exact k C1 none _ H1 E1 ⟨rfl, dBl.mpr rfl⟩ S1
      | false => rw [if_neg (by simp)]; exact go E1 S1 h4
theorem _root_.L2.PW.of {X : Cx} {e : Expr} {T : TT} (h : ∀ σ H Q, T σ H Q → ∃ t, PW X e t ∧ t σ H Q) : PW X e T :=
  ⟨fun wh pins s σ H Q I q => let ⟨t, p, z⟩ := h σ H Q q; p.run wh pins s σ H Q I z⟩
theorem evBw_pw {evb : Expr → Rho → Option (Bool × Rho)} (hev : ∀ e, PT X e (tT np X.K (evb e))) {op : BoolOp} : ∀ (vs : List Expr), PW X (.BoolOp op vs pos) (tT np X.K (evBw evb op vs))
  | [] => by
    refine PW.of fun σ H Q h => ?_
    obtain ⟨Mo, C, ρ, e, ρ', E, hF, k⟩ := h
    cases hF
  | [a] => by
    refine PW.of fun σ H Q h => ?_
    obtain ⟨Mo, C, ρ, e, ρ', E, hF, k⟩ := h
    unfold evBw at hF
    obtain ⟨p', h3, h4⟩ := Option.bind_eq_some_iff.mp hF
    cases h4
    cases op with
    | And => exact ⟨_, pw_and1 (hev a), Mo, C, ρ, _, _, E, h3, k⟩
    | Or => exact ⟨_, pw_or1 (hev a), Mo, C, ρ, _, _, E, h3, k⟩
  | a :: b :: r => by
    refine PW.of fun σ H Q h => ?_
    obtain ⟨Mo, C, ρ, e, ρ', E, hF, k⟩ := h
    unfold evBw at hF
    obtain ⟨p', h3, h4⟩ := Option.bind_eq_some_iff.mp hF
    obtain ⟨c, ρ1⟩ := p'
    cases op with
    | And =>
      refine ⟨_, pw_and (hev a) (evBw_pw hev (b :: r)), Mo, C, ρ, c, ρ1, E, h3, fun C1 H1 E1 S1 => ?_⟩
      cases c with
      | true => rw [if_pos rfl]; exact ⟨Mo, C1, ρ1, _, _, E1, h4, fun C' H' E' S' => k C' H' E' (S1.trans S')⟩
      | false =>
        rw [if_neg (by simp)]
        cases h4
        exact k C1 H1 E1 S1
    | Or =>
      refine ⟨_, pw_or (hev a) (evBw_pw hev (b :: r)), Mo, C, ρ, c, ρ1, E, h3, fun C1 H1 E1 S1 => ?_⟩
      cases c with
      | true =>
        rw [if_pos rfl]
        cases h4
        exact k C1 H1 E1 S1
      | false => rw [if_neg (by simp)]; exact ⟨Mo, C1, ρ1, _, _, E1, h4, fun C' H' E' S' => k C' H' E' (S1.trans S')⟩
end
end Mx
set_option maxHeartbeats 400000
namespace Mx
open PySem L2

section
variable {Γ : Gam} {X : Cx} {n : Nat}
theorem mark_no {op : CmpOp} {b : Expr} (h : isSet b = false) : behindInMarks op b = false := by
  cases b <;> first | rfl | cases h
theorem beq_bool_eq {a b : Bool} (h : a = b) : a = b := h
/-- a comparison, as a value and as a test -/
theorem cmp_reads (ihE : IhE n) (c : CxOk Γ X) {a : Expr} {ops : List CmpOp} {bs : List Expr} {pos : Pos} {t : Bool} {σ : St} {H : Hp} {Mo : AS} {C : CM} {ρ ρ' : Rho} {e : En} {Q : VK} (E : Eok X.K Mo C none H σ ρ)
    (h : ev (n + 1) Γ t (.Compare a ops bs pos) ρ = some (e, ρ')) (k : ∀ C' b v H', e = .imm (.bl b) → Eok X.K Mo C' none H' σ ρ' → v = .bl b → Stp Γ.np C H C' none H' → Q v H') :
    ∃ te, PE X (.Compare a ops bs pos) te ∧ PT X (.Compare a ops bs pos) (tTest te) ∧ te σ H Q := by
  have ih := ihE Γ X c
  -- one comparison
  have one : ∀ {op : CmpOp} {b : Expr} {e : En}, isSet b = false → ((immF (ev n Γ false a) ρ).bind fun p => (brw Γ (ev n Γ false) b p.2).bind fun q => (cmpD op p.1 q.1).bind fun c => some (En.imm (.bl c), q.2)) = some (e, ρ') →
      (∀ C' b v H', e = .imm (.bl b) → Eok X.K Mo C' none H' σ ρ' → v = .bl b → Stp Γ.np C H C' none H' → Q v H') →
      ∃ te, PE X (.Compare a [op] [b] pos) te ∧ PT X (.Compare a [op] [b] pos) (tTest te) ∧ te σ H Q := by
    intro op b e hs h k
    obtain ⟨p, h1, h2⟩ := Option.bind_eq_some_iff.mp h
    obtain ⟨q, h3, h4⟩ := Option.bind_eq_some_iff.mp h2
    obtain ⟨d, h5, h6⟩ := Option.bind_eq_some_iff.mp h4
    cases h6
    refine ⟨_, pe_cmpR op_any (ih a).toI (brw_ok c ih b) (mark_no hs), pt_cmpR op_any (ih a).toI (brw_ok c ih b) (mark_no hs), ?_⟩
    refine ⟨Mo, C, ρ, p.1, p.2, E, h1, fun C1 v H1 E1 d1 S1 => ?_⟩
    refine ⟨Mo, C1, p.2, q.1, q.2, E1, h3, fun C2 u H2 E2 d2 S2 => ?_⟩
    exact cmp_ok c.room h5 (DOk.mov (S2.mov E1.out) _ _ d1) d2.any (k C2 d _ H2 rfl E2 rfl (S1.trans S2))
  unfold ev at h
  split at h
  · rename_i heq; cases heq
  · rename_i heq; cases heq
  · rename_i heq; cases heq
  · rename_i a' op b pos' heq
    cases heq
    split at h
    · cases h
    · rename_i hs
      have hs : isSet b = false := by simpa using hs
      split at h
      · rename_i f fp x cp T tp _
        split at h
        · rename_i ht
          obtain ⟨rfl, g1, g2⟩ := ht
          split at h
          · rename_i hT
            obtain ⟨o1, g3, g4, rfl, sx⟩ := hT
            obtain ⟨p, h1, h2⟩ := Option.bind_eq_some_iff.mp h
            cases hL : tyB.lookup T with
            | none => rw [hL] at h2; cases h2
            | some s =>
              rw [hL] at h2
              cases h2
              obtain ⟨b1, b2⟩ := tyB_boot hL
              obtain ⟨z1, z2, z3⟩ := okN_d o1
              have pa : PE X (.Call (.Name "type" fp) [x] [] cp) _ := pe_callTy call_typeX (c.gl g1) (c.blt _ g2) (by decide +kernel) (pa_cons (ih x).toI pa_nil (star_no sx)) (by decide) (by decide) (star_no sx) rfl
              have pb : PE X (.Name T tp) (tC (.ty s)) := pe_bltn (c.gl g3) (c.blt _ g4) b1 rfl z3 z1
              refine ⟨_, pe_cmpR op_tyEq pa pb rfl, pt_cmpR op_tyEq pa pb rfl, ?_⟩
              refine ⟨Mo, C, ρ, p.1, p.2, E, h1, fun C1 v H1 E1 d1 S1 => ?_⟩
              refine ⟨v, p.1, _, rfl, d1, _, _, rfl, rfl, ty_meta p.1, b2, k C1 _ _ H1 rfl E1 rfl S1⟩
          · cases h
        · exact one hs h k
      · exact one hs h k
  · rename_i a' op op' b c0 pos' heq
    cases heq
    split at h
    · cases h
    · rename_i hs
      have hs : isSet b = false ∧ isSet c0 = false := by simpa using hs
      obtain ⟨p, h1, h2⟩ := Option.bind_eq_some_iff.mp h
      obtain ⟨q, h3, h4⟩ := Option.bind_eq_some_iff.mp h2
      obtain ⟨d, h5, h6⟩ := Option.bind_eq_some_iff.mp h4
      have lm : lastMarks [op, op'] [b, c0] = false := by
        show behindInMarks op' c0 = false
        exact mark_no hs.2
      refine ⟨_, pe_chain op_any op_any (ih a).toI (ih b).toI (ih c0).toI lm, pt_chain op_any op_any (ih a).toI (ih b).toI (ih c0).toI lm, ?_⟩
      refine ⟨Mo, C, ρ, p.1, p.2, E, h1, fun C1 v H1 E1 d1 S1 => ?_⟩
      refine ⟨Mo, C1, p.2, q.1, q.2, E1, h3, fun C2 u H2 E2 d2 S2 => ?_⟩
      refine cmp_ok c.room h5 (DOk.mov (S2.mov E1.out) _ _ d1) d2 ⟨d, rfl, ?_⟩
      cases d with
      | true =>
        rw [if_pos rfl] at h6 ⊢
        obtain ⟨r, h7, h8⟩ := Option.bind_eq_some_iff.mp h6
        obtain ⟨d', h9, h10⟩ := Option.bind_eq_some_iff.mp h8
        cases h10
        refine ⟨Mo, C2, q.2, r.1, r.2, E2, h7, fun C3 w H3 E3 d3 S3 => ?_⟩
        exact cmp_ok c.room h9 (DOk.mov (S3.mov E2.out) _ _ d2) d3 (k C3 _ _ H3 rfl E3 rfl ((S1.trans S2).trans S3))
      | false =>
        rw [if_neg (by simp)] at h6 ⊢
        cases h6
        exact k C2 _ _ H2 rfl E2 rfl (S1.trans S2)
  all_goals first | (rename_i heq; cases heq; done) | (rename_i heq _; cases heq; done) | cases h
end
end Mx
set_option maxHeartbeats 400000
namespace Mx
open PySem L2

section
variable {Γ : Gam} {X : Cx} {n : Nat}
theorem evLw_two {ev' : Expr → Rho → Option (En × Rho)} {a b : Expr} {ρ ρ' : Rho} {x : D} {r : List D} (h : evLw ev' [a, b] ρ = some (x :: r, ρ')) : True := trivial
theorem cst_pe {cst : Const} {d : D} {kk : Nat} {pos : Pos} (h : cstD cst = some d) : ∃ v : V, PE X (.Constant cst kk pos) (tC v) ∧ ∀ (M : AS) (H : Hp), DOk X.K M H d v := by
  cases cst with
  | int i => cases h; exact ⟨_, pe_int, fun _ _ => dInt.mpr rfl⟩
  | bool b => cases h; exact ⟨_, pe_bl, fun _ _ => dBl.mpr rfl⟩
  | none => cases h; exact ⟨_, pe_non, fun _ _ => dNon.mpr rfl⟩
  | str x => cases h; exact ⟨_, pe_str, fun _ _ => dStr.mpr rfl⟩
  | _ => cases h

theorem set_no {e : Expr} {env : Env} (h : isSet e = false) : ∀ x, foldedSetIterable e env x = pure x := by
  intro x
  cases e <;> first | rfl | cases h
theorem boot_of {f : Str} {d : D} {e : En} (h : bcall1 f d = some e) : (∃ id, bootBuiltins f = some (.builtin id)) ∨ ∃ T, bootBuiltins f = some (.type T) := by
  unfold bcall1 at h
  split at h
  · rename_i hf; subst hf; exact .inl ⟨_, PySem.boot_len⟩
  · split at h
    · rename_i hf; subst hf; exact .inr ⟨"int", by decide +kernel⟩
    · split at h
      · rename_i hf; subst hf; exact .inr ⟨"tuple", by decide +kernel⟩
      · split at h
        · rename_i hf; subst hf; exact .inr ⟨"list", by decide +kernel⟩
        · split at h
          · rename_i hf; subst hf; exact .inl ⟨"all", by decide +kernel⟩
          · split at h
            · rename_i hf; subst hf; exact .inl ⟨"repr", by decide +kernel⟩
            · cases h
theorem srtD_lst {d : D} {e : En} (h : srtD d = some e) : ∃ l, d = .lst l := by
  cases d with
  | lst l => exact ⟨l, rfl⟩
  | _ => cases h
theorem br_lst {K : Frg} {Mo : AS} {C : CM} {H : Hp} {d : D} {v : V} (h : BrOk K Mo C H d v) (hl : ∃ l, d = .lst l) : ∃ l a xs, d = .lst l ∧ v = .ref a ∧ SqL K H a xs ∧ DsOk K (MM Mo C none) H l xs := by
  rcases h with h | ⟨l, a, xs, rfl, rfl, h1, h2⟩
  · obtain ⟨l, rfl⟩ := hl
    obtain ⟨a, xs, rfl, t, r⟩ := dLst.mp h
    exact ⟨l, a, xs, rfl, rfl, t.sq, r⟩
  · exact ⟨l, a, xs, rfl, rfl, SqL.of h1, h2⟩
def mxRvAny (X : Cx) : V → Hp → VK → Prop := fun x H Q => ∃ r, MxRv X r ∧ r x H Q
theorem mx_rv_any : MxRv X (mxRvAny X) := by
  intro pins s σ H x v vs sl Q I rx hs ps h
  obtain ⟨r', ho, q⟩ := h
  exact ho pins s σ H x v vs sl Q I rx hs ps q
theorem revD_ok {Mo : AS} {C : CM} {H : Hp} {σ : St} {ρ : Rho} {np : Nat} {d : D} {e : En} {v : V} {Q : VK} (h : revD d = some e) (E : Eok X.K Mo C none H σ ρ) (hd : DOk X.K (MM Mo C none) H d v)
    (k : ∀ C' r w H', Eok X.K Mo C' r H' σ ρ → EnOk X.K Mo C' r H' w e → Stp np C H C' r H' → Q w H') : mxRvAny X v H Q := by
  cases d with
  | lst l =>
    cases h
    obtain ⟨a, xs, rfl, t, r⟩ := dLst.mp hd
    exact ⟨_, mx_rv_list, a, xs, rfl, t.sq, fun p hp => new_lst E (DsOk.rev r) hp k⟩
  | tup l =>
    cases h
    obtain ⟨a, xs, rfl, t, r⟩ := dTup.mp hd
    exact ⟨_, mx_rv_tup, a, xs, rfl, t.sq, fun p hp => new_tup E (DsOk.rev r) hp k⟩
  | str z =>
    have h : (if z.length ≤ line then some (En.imm (.str (mxRev z))) else none) = some e := h
    split at h
    · rename_i hz
      cases h
      rw [dStr] at hd
      subst hd
      exact ⟨_, mx_rv_str, z, rfl, by rw [line_eq]; exact hz, k C none _ H E ⟨rfl, dStr.mpr rfl⟩ Stp.refl⟩
    · cases h
  | non => cases h
  | bl _ => cases h
  | int _ => cases h
theorem comp_reads (ihE : IhE n) (ihT : IhT n) (c : CxOk Γ X) {elt : Expr} {gs : List Comprehension} {scope : Scope} {pos : Pos} {σ : St} {H : Hp} {Mo : AS} {C : CM} {ρ ρ' : Rho} {en : En} {Q : VK} (E : Eok X.K Mo C none H σ ρ)
    (hF : ev (n + 1) Γ false (.ListComp elt gs scope pos) ρ = some (en, ρ')) (k : ∀ C' r v H', Eok X.K Mo C' r H' σ ρ' → EnOk X.K Mo C' r H' v en → Stp Γ.np C H C' r H' → Q v H') :
    ∃ tg iter ifs wi g tt te own, gs = [⟨tg, iter, ifs, 0⟩] ∧ LcParts X tg iter ifs elt scope wi g tt te own ∧ isSet iter = false ∧ tLc wi g tt te (own.map (·.2)) σ H Q := by
  unfold ev at hF
  split at hF
  any_goals (rename_i heq; cases heq; done)
  any_goals (rename_i heq; cases heq)
  · split at hF
    · rename_i hk
      obtain ⟨rfl, hset⟩ := hk
      split at hF
      · rename_i i hi
        split at hF
        · rename_i hb
          obtain ⟨hb1, hb2, hb3⟩ := hb
          obtain ⟨p, h1, h2⟩ := Option.bind_eq_some_iff.mp hF
          split at h2
          · cases h2
          · cases h2
          · rename_i old hno hold
            obtain ⟨q, h3, h4⟩ := Option.bind_eq_some_iff.mp h2
            split at h4
            · rename_i hz
              cases h4
              obtain ⟨wi, g, tt, te, own, P, R⟩ := lc_reads (Q := Q) ihE ihT c E hi hb1 hb2 hb3 h1 hold hno h3 hz k
              exact ⟨_, _, _, wi, g, tt, te, own, rfl, P, hset, R⟩
            · cases h4
        · cases hF
      · cases hF
    · cases hF
  · split at hF
    · rename_i hk
      obtain ⟨rfl, hset⟩ := hk
      split at hF
      · rename_i own hi
        split at hF
        · rename_i hb
          obtain ⟨p, h1, h2⟩ := Option.bind_eq_some_iff.mp hF
          split at h2
          · rename_i hno
            obtain ⟨q, h3, h4⟩ := Option.bind_eq_some_iff.mp h2
            split at h4
            · rename_i hz
              cases h4
              obtain ⟨wi, g, tt, te, own', P, R⟩ := lc_readsT (Q := Q) ihE ihT c E hi hb.1 hb.2 h1 hno h3 hz k
              exact ⟨_, _, _, wi, g, tt, te, own', rfl, P, hset, R⟩
            · cases h4
          · cases h2
        · cases hF
      · cases hF
    · cases hF
  · cases hF
theorem value_ok (ihE : IhE n) (ihT : IhT n) : IhE (n + 1) := by
  intro Γ X c e
  have ih := ihE Γ X c
  refine PE.of fun σ H Q h => ?_
  obtain ⟨Mo, C, ρ, en, ρ', E, hF, k⟩ := h
  have hF0 := hF
  unfold ev at hF
  split at hF
  -- not
  · rename_i a pos
    obtain ⟨p, h1, h2⟩ := Option.bind_eq_some_iff.mp hF
    cases h2
    refine ⟨_, pe_not (ih a).toI, Mo, C, ρ, .bl p.1, p.2, E, by unfold immF; rw [bF_some h1]; rfl, fun C1 v H1 E1 d1 S1 => ?_⟩
    rw [dBl] at d1
    subst d1
    exact ⟨_, rfl, k C1 none _ H1 E1 ⟨rfl, dBl.mpr rfl⟩ S1⟩
  -- and, or
  · rename_i op vs pos
    exact ⟨_, evBw_pe ih vs, Mo, C, ρ, en, ρ', E, hF, k⟩
  -- a if t else b
  · rename_i t a b pos
    rw [if_neg (by simp)] at hF
    obtain ⟨p, h1, h2⟩ := Option.bind_eq_some_iff.mp hF
    refine ⟨_, pe_ifExp (ihT Γ X c t) (ih a) (ih b), Mo, C, ρ, p.1, p.2, E, h1, fun C1 H1 E1 S1 => ?_⟩
    cases hp : p.1 with
    | true =>
      rw [hp, if_pos rfl] at h2
      rw [if_pos rfl]
      exact ⟨Mo, C1, p.2, en, ρ', E1, h2, fun C' r v H' E' o' S' => k C' r v H' E' o' (S1.trans S')⟩
    | false =>
      rw [hp, if_neg (by simp)] at h2
      rw [if_neg (by simp)]
      exact ⟨Mo, C1, p.2, en, ρ', E1, h2, fun C' r v H' E' o' S' => k C' r v H' E' o' (S1.trans S')⟩
  -- comparisons
  · obtain ⟨te, p1, _, p3⟩ := cmp_reads (Q := Q) ihE c E hF0 fun C' b v H' e1 E' e2 S' => by subst e1 e2; exact k C' none _ H' E' ⟨rfl, dBl.mpr rfl⟩ S'
    exact ⟨te, p1, p3⟩
  · obtain ⟨te, p1, _, p3⟩ := cmp_reads (Q := Q) ihE c E hF0 fun C' b v H' e1 E' e2 S' => by subst e1 e2; exact k C' none _ H' E' ⟨rfl, dBl.mpr rfl⟩ S'
    exact ⟨te, p1, p3⟩
  -- a name
  · exact ⟨_, name_ok c, Mo, C, ρ, en, ρ', E, hF, k⟩
  -- a constant
  · obtain ⟨d, h1, h2⟩ := Option.bind_eq_some_iff.mp hF
    cases h2
    obtain ⟨v, p1, p2⟩ := cst_pe (X := X) h1
    exact ⟨_, p1, k C none v H E ⟨rfl, p2 _ _⟩ Stp.refl⟩
  -- a tuple
  · rename_i es x1 pos
    obtain ⟨q, h1, h2⟩ := Option.bind_eq_some_iff.mp hF
    split at h2
    · rename_i hz
      cases h2
      refine ⟨_, pe_tup (evLw_ok ih es), Mo, C, ρ, q.1, q.2, E, h1, fun C1 vs H1 E1 d1 S1 => ⟨by rw [d1.len, line_eq]; exact hz, fun p hp => ?_⟩⟩
      exact new_tup E1 d1 hp fun C' r v H' E' o' S' => k C' r v H' E' o' (S1.trans S')
    · cases h2
  -- a list
  · rename_i es pos
    obtain ⟨q, h1, h2⟩ := Option.bind_eq_some_iff.mp hF
    split at h2
    · rename_i hz
      cases h2
      refine ⟨_, pe_lst (evLw_ok ih es), Mo, C, ρ, q.1, q.2, E, h1, fun C1 vs H1 E1 d1 S1 => ⟨by rw [d1.len, line_eq]; exact hz, fun p hp => ?_⟩⟩
      exact new_lst E1 d1 hp fun C' r v H' E' o' S' => k C' r v H' E' o' (S1.trans S')
    · cases h2
  -- an operator
  · rename_i a op b pos
    obtain ⟨p, h1, h2⟩ := Option.bind_eq_some_iff.mp hF
    obtain ⟨q, h3, h4⟩ := Option.bind_eq_some_iff.mp h2
    obtain ⟨z, h5, h6⟩ := Option.bind_eq_some_iff.mp h4
    cases h6
    refine ⟨_, pe_op op_any (ih a).toI (ih b).toI, Mo, C, ρ, p.1, p.2, E, h1, fun C1 v H1 E1 d1 S1 => ?_⟩
    refine ⟨Mo, C1, p.2, q.1, q.2, E1, h3, fun C2 u H2 E2 d2 S2 => ?_⟩
    exact bin_ok h5 E2 (DOk.mov (S2.mov E1.out) _ _ d1) d2 fun C' r v H' E' o' S' => k C' r v H' E' o' ((S1.trans S2).trans S')
  -- minus
  · rename_i a pos
    obtain ⟨p, h1, h2⟩ := Option.bind_eq_some_iff.mp hF
    obtain ⟨d, ρ1⟩ := p
    cases d with
    | int i =>
      cases h2
      refine ⟨_, pe_un un_neg (ih a).toI, Mo, C, ρ, _, _, E, h1, fun C1 v H1 E1 d1 S1 => ?_⟩
      rw [dInt] at d1
      subst d1
      exact ⟨i, rfl, k C1 none _ H1 E1 ⟨rfl, dInt.mpr rfl⟩ S1⟩
    | non => cases h2
    | bl _ => cases h2
    | str _ => cases h2
    | lst _ => cases h2
    | tup _ => cases h2
  -- a subscript
  · rename_i a i pos
    split at hF
    · rename_i lo hi p2
      obtain ⟨p, h1, h2⟩ := Option.bind_eq_some_iff.mp hF
      obtain ⟨q, h3, h4⟩ := Option.bind_eq_some_iff.mp h2
      obtain ⟨r, h5, h6⟩ := Option.bind_eq_some_iff.mp h4
      obtain ⟨z, h7, h8⟩ := Option.bind_eq_some_iff.mp h6
      cases h8
      have po : ∀ o, PO X o (tO Γ.np X.K (evO (ev n Γ false) o)) := fun o => ⟨fun pins s σ H Q I hh => by
        obtain ⟨Mo, C, ρ, d, ρ', E, hF, k⟩ := hh
        obtain ⟨t, p1, p2, _⟩ := evO_ok ih o (Q := Q) E hF k
        exact p1.run pins s σ H Q I p2⟩
      refine ⟨_, pe_slice sl_any (ih a).toI (po lo) (po hi), Mo, C, ρ, p.1, p.2, E, h1, fun C1 v H1 E1 d1 S1 => ?_⟩
      refine ⟨Mo, C1, p.2, q.1, q.2, E1, h3, fun C2 H2 E2 S2 => ?_⟩
      refine ⟨Mo, C2, q.2, r.1, r.2, E2, h5, fun C3 H3 E3 S3 => ?_⟩
      exact slD_ok h7 E3 (DOk.mov ((S2.trans S3).mov E1.out) _ _ d1) fun C' r v H' E' o' S' => k C' r v H' E' o' (((S1.trans S2).trans S3).trans S')
    · rename_i st p2
      split at hF
      · rename_i hm
        obtain ⟨p, h1, h2⟩ := Option.bind_eq_some_iff.mp hF
        obtain ⟨z, h3, h4⟩ := Option.bind_eq_some_iff.mp h2
        cases h4
        have hst : PE X st (tC (.int (-1))) := by
          unfold isM1 at hm
          split at hm
          · exact (pe_un un_neg pe_int).weak fun σ H Q q => ⟨1, rfl, q⟩
          · cases hm
        refine ⟨_, mx_pe_rev mx_rv_any (ih a).toI hst, Mo, C, ρ, p.1, p.2, E, h1, fun C1 v H1 E1 d1 S1 => ?_⟩
        exact revD_ok h3 E1 d1 fun C' r v H' E' o' S' => k C' r v H' E' o' (S1.trans S')
      · cases hF
    · split at hF
      · cases hF
      · rename_i ns
        have ns : isSlice i = false := by simpa using ns
        split at hF
        · rename_i kk hk
          obtain ⟨q, h1, h2⟩ := Option.bind_eq_some_iff.mp hF
          obtain ⟨pv, l0, hl0⟩ := celOf_ok c hk
          obtain ⟨a0, xs0, _, g2, _, _⟩ := E.cel kk l0 hl0
          split at h2
          · rename_i j l hq hcel
            obtain ⟨d, h3, h4⟩ := Option.bind_eq_some_iff.mp h2
            cases h4
            refine ⟨_, pe_ix ix_any pv (ih i).toI (plain_ix ns), _, g2, ?_⟩
            refine ⟨Mo, C, ρ, q.1, q.2, E, h1, fun C1 v H1 E1 d1 S1 => ?_⟩
            rw [hq, dInt] at d1
            subst d1
            obtain ⟨a1, xs1, z1, z2, z3, z4⟩ := E1.cel kk l hcel
            rw [g2] at z2
            cases z2
            obtain ⟨w, y1, y2⟩ := atI_ds z4 h3
            exact ⟨_, ix_list, _, xs1, j, w, rfl, rfl, SqL.of z3, y1, k C1 none w H1 E1 ⟨rfl, y2⟩ S1⟩
          · cases h2
        · obtain ⟨p, h1, h2⟩ := Option.bind_eq_some_iff.mp hF
          obtain ⟨q, h3, h4⟩ := Option.bind_eq_some_iff.mp h2
          split at h4
          · rename_i j hq
            obtain ⟨d, h5, h6⟩ := Option.bind_eq_some_iff.mp h4
            cases h6
            refine ⟨_, pe_ix ix_any (ih a).toI (ih i).toI (plain_ix ns), Mo, C, ρ, p.1, p.2, E, h1, fun C1 v H1 E1 d1 S1 => ?_⟩
            refine ⟨Mo, C1, p.2, q.1, q.2, E1, h3, fun C2 u H2 E2 d2 S2 => ?_⟩
            rw [hq, dInt] at d2
            subst d2
            exact ixD_ok h5 (DOk.mov (S2.mov E1.out) _ _ d1) fun w dw => k C2 none w H2 E2 ⟨rfl, dw⟩ (S1.trans S2)
          · cases h4
  -- a call
  · rename_i f fp args kws pos
    split at hF
    · rename_i hg
      rw [Bool.and_eq_true] at hg
      obtain ⟨okf, glf⟩ := hg
      obtain ⟨o1, o2, o3⟩ := okN_d okf
      split at hF
      · rename_i F hphi
        obtain ⟨p, h1, h2⟩ := Option.bind_eq_some_iff.mp hF
        obtain ⟨ks, h3, h4⟩ := Option.bind_eq_some_iff.mp h2
        obtain ⟨q, h5, h6⟩ := Option.bind_eq_some_iff.mp h4
        obtain ⟨ens, h7, h8⟩ := Option.bind_eq_some_iff.mp h6
        obtain ⟨r, h9, h10⟩ := Option.bind_eq_some_iff.mp h8
        obtain ⟨ρ2, h11, h12⟩ := Option.bind_eq_some_iff.mp h10
        cases h12
        split at h7
        · rename_i hc
          rw [Bool.and_eq_true] at hc
          split at h9
          · rename_i hl
            exact own_pe c ih (c.phi f F hphi) (c.gl glf) okf E h1 h3 h5 hc.1 (List.contains_iff_mem.mp hc.2) h7 hl h9 h11 k
          · cases h9
        · cases h7
      · split at hF
        · rename_i hB
          split at hF
          · rename_i a
            split at hF
            · cases hF
            · rename_i ns
              have ns : isStar a = false := by simpa using ns
              split at hF
              · rename_i hf
                subst hf
                obtain ⟨x, hx, hF⟩ := Option.bind_eq_some_iff.mp hF
                obtain ⟨p, h1, h2⟩ := Option.bind_eq_some_iff.mp hF
                obtain ⟨z, h3, h4⟩ := Option.bind_eq_some_iff.mp h2
                cases h4
                unfold setArg at hx
                split at hx
                · split at hx
                  · rename_i hg2
                    cases hx
                    obtain ⟨rfl, g1, g2, nx⟩ := hg2
                    have ok2 : okN ("set" : Str) = true := by decide +kernel
                    obtain ⟨u1, u2, u3⟩ := okN_d ok2
                    have inner := fun (p0 pos0 : Pos) => pe_callTy (p := p0) (pos := pos0) (Ms.call_set c.calm (by have := c.room.units; omega)) (c.gl g1) (c.blt _ g2) (by decide +kernel) (pa_cons (brw_ok c ih x) (pa_nil (X := X)) (star_no nx)) u3 u1 (star_no nx) rfl
                    refine ⟨_, pe_callB (Ms.call_sorted c.calm) (c.gl glf) (c.blt _ hB) (by decide +kernel) (pa_cons (inner _ _) (pa_nil (X := X)) (star_no ns)) o3 o1 (star_no ns) rfl, ?_⟩
                    refine ⟨Mo, C, ρ, p.1, p.2, E, h1, fun C1 v H1 E1 d1 S1 => ?_⟩
                    obtain ⟨l, a, xs, e1, rfl, hs, hd⟩ := br_lst d1 (srtD_lst h3)
                    rw [e1] at h3
                    exact srt_ok h3 E1 hs hd fun C' r v H' E' o' S' => k C' r v H' E' o' (S1.trans S')
                  · cases hx
                · cases hx
              obtain ⟨p, h1, h2⟩ := Option.bind_eq_some_iff.mp hF
              obtain ⟨z, h3, h4⟩ := Option.bind_eq_some_iff.mp h2
              cases h4
              have pa := pa_cons (brw_ok c ih a) (pa_nil (X := X)) (star_no ns)
              have pl : (backTo pos (starEach [] X.env)).any (·.1) = false := rfl
              rcases boot_of h3 with ⟨id, hb⟩ | ⟨T, hb⟩
              · refine ⟨_, pe_callB (call_any (f := .builtin id)) (c.gl glf) (c.blt f hB) hb pa o3 o1 (star_no ns) pl, ?_⟩
                refine ⟨Mo, C, ρ, p.1, p.2, E, h1, fun C1 v H1 E1 d1 S1 => ?_⟩
                rcases bcall1_ok (np := Γ.np) (Q := Q) c h3 E1 d1 (fun C' r v H' E' o' S' => k C' r v H' E' o' (S1.trans S')) with ⟨id', r, b1, b2, b3⟩ | ⟨T', r, b1, b2, b3⟩
                · rw [hb] at b1; cases b1; exact ⟨r, b2, b3⟩
                · rw [hb] at b1; cases b1
              · refine ⟨_, pe_callTy (call_any (f := .type T)) (c.gl glf) (c.blt f hB) hb pa o3 o1 (star_no ns) pl, ?_⟩
                refine ⟨Mo, C, ρ, p.1, p.2, E, h1, fun C1 v H1 E1 d1 S1 => ?_⟩
                rcases bcall1_ok (np := Γ.np) (Q := Q) c h3 E1 d1 (fun C' r v H' E' o' S' => k C' r v H' E' o' (S1.trans S')) with ⟨id', r, b1, b2, b3⟩ | ⟨T', r, b1, b2, b3⟩
                · rw [hb] at b1; cases b1
                · rw [hb] at b1; cases b1; exact ⟨r, b2, b3⟩
          · rename_i a b
            split at hF
            · rename_i hf
              subst hf
              split at hF
              · rename_i T tp
                split at hF
                · rename_i hT
                  obtain ⟨g1, g2, g3, ns⟩ := hT
                  obtain ⟨z1, z2, z3⟩ := okN_d g1
                  obtain ⟨p, h1, h2⟩ := Option.bind_eq_some_iff.mp hF
                  obtain ⟨s, h3, h4⟩ := Option.bind_eq_some_iff.mp h2
                  obtain ⟨b, h5, h6⟩ := Option.bind_eq_some_iff.mp h4
                  cases h6
                  obtain ⟨b1, b2⟩ := tyB_boot h3
                  have pb : PE X (.Name T tp) (tC (.ty s)) := pe_bltn (c.gl g2) (c.blt _ g3) b1 rfl z3 z1
                  refine ⟨_, pe_callB call_isi (c.gl glf) (c.blt _ hB) (by decide +kernel) (pa_cons (ih a).toI (pa_cons pb pa_nil) (star_no ns)) o3 o1 (star_no ns) rfl, ?_⟩
                  refine ⟨Mo, C, ρ, p.1, p.2, E, h1, fun C1 v H1 E1 d1 S1 => ?_⟩
                  exact ⟨v, .ty s, _, _, b, rfl, .ty s, tyX_of d1, kit_ty h5, k C1 none _ H1 E1 ⟨rfl, dBl.mpr rfl⟩ S1⟩
                · cases hF
              · cases hF
            · obtain ⟨q, h1, h2⟩ := Option.bind_eq_some_iff.mp hF
              split at h2
              · rename_i x y hq
                obtain ⟨z, h3, h4⟩ := Option.bind_eq_some_iff.mp h2
                cases h4
                have stars := evLw_star h1
                unfold bcall2 at h3
                split at h3
                · rename_i hf
                  subst hf
                  split at h3
                  · rename_i i j
                    cases h3
                    refine ⟨_, pe_callB (call_max2 c.calm) (c.gl glf) (c.blt _ hB) (by decide +kernel) (evLw_ok ih [a, b]) o3 o1 (star_no (stars a List.mem_cons_self)) (plain_args fun e he => stars e (List.mem_cons_of_mem _ he)), ?_⟩
                    refine ⟨Mo, C, ρ, q.1, q.2, E, h1, fun C1 vs H1 E1 d1 S1 => ?_⟩
                    rw [hq] at d1
                    unfold DsOk at d1
                    obtain ⟨v1, r1, rfl, w1, d2⟩ := d1
                    unfold DsOk at d2
                    obtain ⟨v2, r2, rfl, w2, d3⟩ := d2
                    unfold DsOk at d3
                    subst d3
                    rw [dInt] at w1 w2
                    subst w1 w2
                    exact ⟨i, j, rfl, k C1 none _ H1 E1 ⟨rfl, dInt.mpr rfl⟩ S1⟩
                  · cases h3
                · cases h3
              · cases h2
          · cases hF
        · cases hF
    · cases hF
  -- a comprehension
  · obtain ⟨tg, iter, ifs, wi, g, tt, te, own, e1, P, hs, R⟩ := comp_reads (Q := Q) ihE ihT c E hF0 k
    cases e1
    exact ⟨_, pe_lc c.calm (by rw [c.nN]; exact c.nd) P.hi P.ok P.hg P.ht P.he (set_no hs), R⟩
  · obtain ⟨tg, iter, ifs, wi, g, tt, te, own, e1, P, hs, R⟩ := comp_reads (Q := Q) ihE ihT c E hF0 k
    cases e1
    exact ⟨_, pe_lc c.calm (by rw [c.nN]; exact c.nd) P.hi P.ok P.hg P.ht P.he (set_no hs), R⟩
  · cases hF
end
end Mx
set_option maxHeartbeats 400000
namespace Mx
open PySem L2

section
variable {n : Nat}
theorem plain_test {e : Expr} {env : Env} (h1 : ∀ op a p, e = .UnaryOp op a p → op ≠ .Not) (h2 : ∀ op vs p, e ≠ .BoolOp op vs p) (h3 : ∀ a b c p, e ≠ .IfExp a b c p) (h4 : ∀ a os bs p, e ≠ .Compare a os bs p) :
    ∀ whole, isTrue e env whole = (do let v ← whole; standAt e.pos; holding [v] (truthy v)) := by
  intro whole
  cases e with
  | UnaryOp op a p =>
    cases op with
    | Not => exact absurd rfl (h1 _ a p rfl)
    | _ => rfl
  | BoolOp op vs p => exact absurd rfl (h2 op vs p)
  | IfExp a b c p => exact absurd rfl (h3 a b c p)
  | Compare a os bs p => exact absurd rfl (h4 a os bs p)
  | _ => rfl
theorem test_ok (ihE : IhE n) (ihT : IhT n) : IhT (n + 1) := by
  intro Γ X c e
  have ihv := value_ok ihE ihT Γ X c e
  have gen : (∀ op a p, e = .UnaryOp op a p → op ≠ .Not) → (∀ op vs p, e ≠ .BoolOp op vs p) → (∀ a b c p, e ≠ .IfExp a b c p) → (∀ a os bs p, e ≠ .Compare a os bs p) → (∀ ρ, ev (n + 1) Γ true e ρ = ev (n + 1) Γ false e ρ) →
      PT X e (tT Γ.np X.K fun ρ => bF (ev (n + 1) Γ true e ρ)) := by
    intro h1 h2 h3 h4 he
    refine PT.of fun σ H Q h => ?_
    obtain ⟨Mo, C, ρ, b, ρ', E, hF, k⟩ := h
    have hF := bF_some hF
    rw [he] at hF
    refine ⟨_, pt_val ihv (plain_test h1 h2 h3 h4), Mo, C, ρ, _, _, E, hF, fun C' r v H' E' o' S' => ?_⟩
    obtain ⟨hr, d⟩ := o'
    subst hr
    rw [dBl] at d
    exact ⟨b, d, k C' H' E' S'⟩
  cases e with
  | UnaryOp op a p =>
    cases op with
    | Not =>
      refine PT.of fun σ H Q h => ?_
      obtain ⟨Mo, C, ρ, b, ρ', E, hF, k⟩ := h
      have hF := bF_some hF
      unfold ev at hF
      obtain ⟨q, h1, h2⟩ := Option.bind_eq_some_iff.mp hF
      cases h2
      refine ⟨_, pt_not (ihT Γ X c a), Mo, C, ρ, q.1, q.2, E, h1, fun C' H' E' S' => k C' H' E' S'⟩
    | _ => exact gen (fun _ _ _ h => by cases h; intro z; cases z) (fun _ _ _ h => by cases h) (fun _ _ _ _ h => by cases h) (fun _ _ _ _ h => by cases h) (fun _ => rfl)
  | BoolOp op vs p =>
    refine PT.of fun σ H Q h => ?_
    obtain ⟨Mo, C, ρ, b, ρ', E, hF, k⟩ := h
    have hF := bF_some hF
    unfold ev at hF
    obtain ⟨q, h1, h2⟩ := Option.bind_eq_some_iff.mp hF
    cases h2
    exact ⟨_, (evBw_pw (fun a => ihT Γ X c a) vs).pt, Mo, C, ρ, q.1, q.2, E, h1, k⟩
  | IfExp a b d p =>
    refine PT.of fun σ H Q h => ?_
    obtain ⟨Mo, C, ρ, b, ρ', E, hF, k⟩ := h
    have hF := bF_some hF
    unfold ev at hF
    cases hF
  | Compare a os bs p =>
    refine PT.of fun σ H Q h => ?_
    obtain ⟨Mo, C, ρ, b, ρ', E, hF, k⟩ := h
    have hF := bF_some hF
    obtain ⟨te, p1, p2, p3⟩ := cmp_reads (Q := fun v H => ∃ k, v = .bl k ∧ Q k H) ihE c E hF fun C' b' v H' e1 E' e2 S' => by
      cases e1
      exact ⟨b, e2, k C' H' E' S'⟩
    exact ⟨_, p2, p3⟩
  | Call f args kws p => exact gen (fun _ _ _ h => by cases h) (fun _ _ _ h => by cases h) (fun _ _ _ _ h => by cases h) (fun _ _ _ _ h => by cases h) (fun _ => by cases f <;> rfl)
  | ListComp elt gs scope p =>
    refine gen (fun _ _ _ h => by cases h) (fun _ _ _ h => by cases h) (fun _ _ _ _ h => by cases h) (fun _ _ _ _ h => by cases h) (fun _ => ?_)
    cases gs with
    | nil => rfl
    | cons g r =>
      obtain ⟨tg, it, ifs, k⟩ := g
      cases r with
      | nil => cases tg <;> rfl
      | cons g' r => cases tg <;> rfl
  | _ => exact gen (fun _ _ _ h => by cases h) (fun _ _ _ h => by cases h) (fun _ _ _ _ h => by cases h) (fun _ _ _ _ h => by cases h) (fun _ => rfl)
theorem ih_all (n : Nat) : IhE n ∧ IhT n := by
  induction n with
  | zero => exact ⟨fun Γ X c e => PE.of fun σ H Q ⟨_, _, _, _, _, _, hF, _⟩ => (nomatch hF), fun Γ X c e => PT.of fun σ H Q ⟨_, _, _, _, _, _, hF, _⟩ => (nomatch hF)⟩
  | succ n ih => exact ⟨value_ok ih.1 ih.2, test_ok ih.1 ih.2⟩
end
end Mx
set_option maxHeartbeats 400000
namespace Mx
open PySem L2

/-! ## The evaluator of statements -/
inductive Out where
  | nx | ret (e : En) | brk | cnt
def isCel (ρ : Rho) (i : Nat) : Bool := match ρ[i]? with
  | some (some (.cel _)) => true
  | _ => false
def stName (Γ : Gam) (x : Str) (d : D) (ρ : Rho) : Option Rho :=
  if locB Γ.sc x then match ixOf Γ.N x with
    | some i => if decide (i < Γ.np) && isCel ρ i then none else some (ρ.set i (some (.imm d)))
    | none => none
  else none
def stNames (Γ : Gam) : List Expr → List D → Rho → Option Rho
  | [], [], ρ => some ρ
  | .Name x _ :: ts, d :: ds, ρ => (stName Γ x d ρ).bind fun ρ1 => stNames Γ ts ds ρ1
  | _, _, _ => none
/-- what the order of stores hangs on, read off the text -/
def bkOf (sc : Scope) : ScopeKind := if sc.kind.isAnnotationScope then .function else sc.kind
def swpNames (ts : List Expr) (kf : Str → Option NameKind) : List Str :=
  ts.filterMap fun
    | .Name id pos => if kf id == some .local && pos.line == (ts.head?.map (·.pos.line)).getD 0 then some id else none
    | _ => none
def swp (ts vs : List Expr) (bk : ScopeKind) (kf : Str → Option NameKind) : Option (Option (List Str)) :=
  if !(ts.length == 2 || ts.length == 3) || vs.length != ts.length || bk != .function then some none
  else if vs.any isStar then some none
  else if (swpNames ts kf).length != ts.length || (swpNames ts kf).eraseDups.length != (swpNames ts kf).length then some none
  else if vs.all (foldedForSure 8) then some none
  else if vs.all (constantsAlone 8) then none
  else some (some (swpNames ts kf))
def parOk (Γ : Gam) (ts : List Expr) (names : List Str) : Bool := match ts with
  | [.Name x _, .Name y _] => decide (names = [x, y]) && decide (Γ.sc.names.lookup x = some .local) && decide (Γ.sc.names.lookup y = some .local) && decide (ixOf Γ.N x ≠ ixOf Γ.N y)
  | [.Name x _, .Name y _, .Name z _] => decide (names = [x, y, z]) && decide (Γ.sc.names.lookup x = some .local) && decide (Γ.sc.names.lookup y = some .local) && decide (Γ.sc.names.lookup z = some .local) &&
      decide (ixOf Γ.N x ≠ ixOf Γ.N y) && decide (ixOf Γ.N x ≠ ixOf Γ.N z) && decide (ixOf Γ.N y ≠ ixOf Γ.N z)
  | _ => false
def swOk (Γ : Gam) (ts : List Expr) (e : Expr) : Bool := match e with
  | .Tuple vs _ _ => match swp ts vs (bkOf Γ.sc) (fun x => Γ.sc.names.lookup x) with
    | none => false
    | some none => true
    | some (some names) => parOk Γ ts names && decide (vs.length = ts.length)
  | _ => true
def okT (Γ : Gam) : Expr → Bool
  | .Name x _ => locB Γ.sc x && (ixOf Γ.N x).isSome
  | _ => false
def forTurns (store : D → Rho → Option Rho) (body : Rho → Option (Out × Rho)) : List D → Rho → Option (Out × Rho)
  | [], ρ => some (.nx, ρ)
  | d :: ds, ρ => (store d ρ).bind fun ρ1 => (body ρ1).bind fun r => match r.1 with
    | .nx => forTurns store body ds r.2
    | .cnt => forTurns store body ds r.2
    | .brk => some (.nx, r.2)
    | .ret e => some (.ret e, r.2)
def blockW (es : Stmt → Rho → Option (Out × Rho)) : List Stmt → Rho → Option (Out × Rho)
  | [], ρ => some (.nx, ρ)
  | s :: ss, ρ => (es s ρ).bind fun r => match r.1 with
    | .nx => blockW es ss r.2
    | o => some (o, r.2)
def evS : Nat → Gam → Stmt → Rho → Option (Out × Rho)
  | 0, _, _, _ => none
  | n + 1, Γ, s, ρ => match s with
    | .Pass _ => some (.nx, ρ)
    | .Break _ => some (.brk, ρ)
    | .Continue _ => some (.cnt, ρ)
    | .Expr e _ => match e with
      | .Constant (.str _) _ _ => some (.nx, ρ)
      | .Call (.Attribute (.Name x xp) m ap) [a] [] cp => if m = "append" ∧ isStar a = false ∧ (ap.endLine == cp.line) = true then match celOf Γ (.Name x xp) ρ with
          | some k => (immF (ev n Γ false a) ρ).bind fun p => match p.2[k]? with
            | some (some (.cel l)) => if l.length < line then some (.nx, p.2.set k (some (.cel (l ++ [p.1])))) else none
            | _ => none
          | none => none
        else none
      | e => if isComp e then none else (ev n Γ false e ρ).bind fun p => some (.nx, p.2)
    | .Return none _ => some (.ret (.imm .non), ρ)
    | .Return (some e) _ => match celOf Γ e ρ with
      | some i => if i < Γ.np then (ev n Γ false e ρ).bind fun p => some (.ret p.1, p.2) else match ρ[i]? with
        | some (some (.cel l)) => some (.ret (.cel l), ρ.set i none)
        | _ => none
      | none => (ev n Γ false e ρ).bind fun p => some (.ret p.1, p.2)
    | .Assign [.Name x _] e _ => (ev n Γ false e ρ).bind fun p => match p.1 with
      | .imm d => (stName Γ x d p.2).bind fun ρ1 => some (.nx, ρ1)
      | .cel l => if locB Γ.sc x then match ixOf Γ.N x with
        | some i => if i < Γ.np then (stName Γ x (.lst l) p.2).bind fun ρ1 => some (.nx, ρ1) else if i < p.2.length then some (.nx, p.2.set i (some (.cel l))) else none
        | none => none
        else none
    | .Assign [.Tuple ts _ _] e _ => if swOk Γ ts e && !isComp e then (immF (ev n Γ false e) ρ).bind fun p => match p.1 with
        | .tup l => (stNames Γ ts l p.2).bind fun ρ1 => some (.nx, ρ1)
        | _ => none
      else none
    | .Assign [.Subscript (.Name x xp) i _] e _ => if isComp e || isSlice i then none else (immF (ev n Γ false e) ρ).bind fun p => match celOf Γ (.Name x xp) p.2 with
        | some k => (immF (ev n Γ false i) p.2).bind fun q => match q.1, q.2[k]? with
          | .int j, some (some (.cel l)) => (ixN l.length j).bind fun m => some (.nx, q.2.set k (some (.cel (l.set m p.1))))
          | _, _ => none
        | none => none
    | .If t a b _ => (bF (ev n Γ true t ρ)).bind fun p => if p.1 then blockW (evS n Γ) a p.2 else blockW (evS n Γ) b p.2
    | .For (.Name y yp) iter body [] _ => if isSet iter || !okT Γ (.Name y yp) then none else (evIt false Γ (ev n Γ false) iter ρ).bind fun p => forTurns (stName Γ y) (blockW (evS n Γ) body) p.1 p.2
    | .For (.Tuple ts _ _) iter body [] _ => if isSet iter || !ts.all (okT Γ) then none else (evIt true Γ (ev n Γ false) iter ρ).bind fun p => forTurns (fun d ρ => match d with
        | .tup l => stNames Γ ts l ρ
        | _ => none) (blockW (evS n Γ) body) p.1 p.2
    | _ => none

/-! ## Readings of statements -/
def OutP (K : Frg) (Mo : AS) (C : CM) (r : Option Addr) (H : Hp) (D : Ends) (σ : St) : Out → Prop
  | .nx => D.nx σ H
  | .brk => D.bk σ H
  | .cnt => D.ct σ H
  | .ret e => ∀ v, EnOk K Mo C r H v e → D.rt v H
def retless : Out → Option Addr → Prop
  | .ret _, _ => True
  | _, r => r = none
def tS (np : Nat) (K : Frg) (F : Rho → Option (Out × Rho)) : TS := fun D σ H => ∃ Mo C ρ o ρ', Eok K Mo C none H σ ρ ∧ F ρ = some (o, ρ') ∧
  ∀ C' r σ' H', Eok K Mo C' r H' σ' ρ' → Stp np C H C' r H' → retless o r → OutP K Mo C' r H' D σ' o
structure CxS (Γ : Gam) (X : Cx) : Prop extends CxOk Γ X where
  fn : X.fn = fun _ => true
section
variable {Γ : Gam} {X : Cx}
theorem loc_of {sc : Scope} {x : Str} (h : locB sc x = true) : Loc sc x := by
  unfold locB at h
  split at h
  · exact .inl (by assumption)
  · exact .inr (by assumption)
  · cases h
theorem swp_is {ts vs : List Expr} {env : Env} {k1 k2 : Nat} {p1 p2 : Pos} {o : Option (List Str)} (h : swp ts vs env.blockKind env.kindOf = some o) : swappedStores [.Tuple ts k1 p1] (.Tuple vs k2 p2) env = pure o := by
  have hs : ∀ f : Expr → Bool, (∀ e, f e = isStar e) → vs.any f = vs.any isStar := fun f hf => by
    rw [show f = isStar from funext hf]
  unfold swp at h
  unfold swappedStores
  split at h
  · rename_i c
    cases h
    exact if_pos c
  · rename_i c
    refine (if_neg c).trans ?_
    rw [hs _ (fun e => by cases e <;> rfl)]
    split at h
    · rename_i c2
      cases h
      exact if_pos c2
    · rename_i c2
      refine (if_neg c2).trans ?_
      split at h
      · rename_i c3
        cases h
        exact if_pos c3
      · rename_i c3
        refine (if_neg c3).trans ?_
        split at h
        · rename_i c4
          cases h
          exact if_pos c4
        · rename_i c4
          refine (if_neg c4).trans ?_
          split at h
          · cases h
          · rename_i c5
            cases h
            exact if_neg c5
end
end Mx
set_option maxHeartbeats 400000
namespace Mx
open PySem L2

section
variable {K : Frg} {Mo : AS} {C : CM} {H H' : Hp} {σ : St} {ρ : Rho} {np : Nat} {D0 : Addr} {r : Option Addr}
def CM.on (C : CM) (i : Nat) (p : Addr) : CM := fun j => if j = i then some p else C j
/-- a name holds a list of its own -/
theorem Eok.storeCel (E : Eok K Mo C (some D0) H σ ρ) {i : Nat} {l : List D} {xs : List V} (hi : i < ρ.length) (hH : H D0 = some (.lst xs)) (hd : DsOk K (MM Mo C (some D0)) H l xs) :
    Eok K Mo (CM.on C i D0) none H (σ.set i (some (.ref D0))) (ρ.set i (some (.cel l))) ∧ (∀ j a, CM.on C i D0 j = some a → C j = some a ∨ (j = i ∧ a = D0)) := by
  have on_ : ∀ j a, CM.on C i D0 j = some a → (j ≠ i ∧ C j = some a) ∨ (j = i ∧ a = D0) := by
    intro j a h
    unfold CM.on at h
    by_cases z : j = i
    · rw [if_pos z] at h; cases h; exact .inr ⟨z, rfl⟩
    · rw [if_neg z] at h; exact .inl ⟨z, h⟩
  have m : Mov (MM Mo C (some D0)) H (MM Mo (CM.on C i D0) none) H := by
    refine mov_iff fun a => ?_
    rintro (q | ⟨j, q⟩ | q)
    · exact .inl q
    · rcases on_ j a q with ⟨_, q⟩ | ⟨_, q⟩
      · exact .inr (.inl ⟨j, q⟩)
      · exact .inr (.inr (by rw [q]))
    · cases q
  obtain ⟨n1, n2⟩ := E.rz D0 rfl
  refine ⟨⟨by simp [E.len], fun j d e => ?_, fun j l' e => ?_, fun j a h => ?_, fun j k a h h' => ?_, E.out, fun j a h => ?_, fun _ z => (nomatch z)⟩, fun j a h => (on_ j a h).imp (·.2) id⟩
  · by_cases z : j = i
    · subst z
      rw [List.getElem?_set_self hi] at e
      cases e
    · rw [List.getElem?_set_ne (Ne.symm z)] at e
      obtain ⟨v, h1, h2⟩ := E.imm j d e
      exact ⟨v, by rw [List.getElem?_set_ne (Ne.symm z)]; exact h1, DOk.mov m d v h2⟩
  · by_cases z : j = i
    · subst z
      rw [List.getElem?_set_self hi] at e
      cases e
      exact ⟨D0, xs, by unfold CM.on; rw [if_pos rfl], List.getElem?_set_self (by rw [E.len]; exact hi), hH, DsOk.mov m _ _ hd⟩
    · rw [List.getElem?_set_ne (Ne.symm z)] at e
      obtain ⟨a, ys, h1, h2, h3, h4⟩ := E.cel j l' e
      exact ⟨a, ys, by unfold CM.on; rw [if_neg z]; exact h1, by rw [List.getElem?_set_ne (Ne.symm z)]; exact h2, h3, DsOk.mov m _ _ h4⟩
  · rcases on_ j a h with ⟨z, q⟩ | ⟨z, q⟩
    · obtain ⟨l', e⟩ := E.only j a q
      exact ⟨l', by rw [List.getElem?_set_ne (Ne.symm z)]; exact e⟩
    · subst z
      exact ⟨l, List.getElem?_set_self hi⟩
  · rcases on_ j a h with ⟨z, q⟩ | ⟨z, q⟩
    · rcases on_ k a h' with ⟨z', q'⟩ | ⟨z', q'⟩
      · exact E.inj j k a q q'
      · rw [q'] at q; exact (n1 j q).elim
    · rcases on_ k a h' with ⟨z', q'⟩ | ⟨z', q'⟩
      · rw [q] at q'; exact (n1 k q').elim
      · rw [z, z']
  · rcases on_ j a h with ⟨z, q⟩ | ⟨z, q⟩
    · exact E.apart j a q
    · rw [q]; exact n2
/-- a list of one's own is written -/
theorem Eok.writeCel (E : Eok K Mo C none H σ ρ) {k : Nat} {a : Addr} {l l' : List D} {xs' : List V} (hk : ρ[k]? = some (some (.cel l))) (hC : C k = some a) (hd : DsOk K (MM Mo C none) H l' xs') :
    Eok K Mo C none (upd H a (.lst xs')) σ (ρ.set k (some (.cel l'))) ∧ Stp np C H C none (upd H a (.lst xs')) := by
  have hl : k < ρ.length := (List.getElem?_eq_some_iff.mp hk).1
  have m : Mov (MM Mo C none) H (MM Mo C none) (upd H a (.lst xs')) := fun b u e n => ⟨by rw [upd_ne fun z => n (.inr (.inl ⟨k, by rw [z]; exact hC⟩))]; exact e, n⟩
  have S : Stp np C H C none (upd H a (.lst xs')) := ⟨fun b o h n => by rw [upd_ne fun z => n k (by rw [z]; exact hC)]; exact h, fun j b h => .inl ⟨j, h⟩, fun _ z => (nomatch z), fun _ _ _ h => h⟩
  refine ⟨⟨by simp [E.len], fun j d e => ?_, fun j l2 e => ?_, fun j b h => ?_, E.inj, fun b h => ?_, E.apart, fun _ z => (nomatch z)⟩, S⟩
  · by_cases z : j = k
    · subst z
      rw [List.getElem?_set_self hl] at e
      cases e
    · rw [List.getElem?_set_ne (Ne.symm z)] at e
      obtain ⟨v, h1, h2⟩ := E.imm j d e
      exact ⟨v, h1, DOk.mov m d v h2⟩
  · by_cases z : j = k
    · subst z
      rw [List.getElem?_set_self hl] at e
      cases e
      obtain ⟨b, ys, h1, h2, h3, h4⟩ := E.cel j l hk
      rw [hC] at h1
      cases h1
      exact ⟨a, xs', hC, h2, upd_same, DsOk.mov m _ _ hd⟩
    · rw [List.getElem?_set_ne (Ne.symm z)] at e
      obtain ⟨b, ys, h1, h2, h3, h4⟩ := E.cel j l2 e
      refine ⟨b, ys, h1, h2, ?_, DsOk.mov m _ _ h4⟩
      rw [upd_ne fun q => z (E.inj j k b h1 (by rw [q]; exact hC))]
      exact h3
  · by_cases z : j = k
    · subst z
      exact ⟨l', List.getElem?_set_self hl⟩
    · obtain ⟨l2, e⟩ := E.only j b h
      exact ⟨l2, by rw [List.getElem?_set_ne (Ne.symm z)]; exact e⟩
  · obtain ⟨o, q⟩ := E.out b h
    by_cases z : b = a
    · rw [z]; exact ⟨_, upd_same⟩
    · exact ⟨o, by rw [upd_ne z]; exact q⟩
end

section
variable {Γ : Gam} {X : Cx}
theorem stName_ok (c : CxS Γ X) {x : Str} {d : D} {ρ ρ1 : Rho} (h : stName Γ x d ρ = some ρ1) : ∃ i, X.N[i]? = some x ∧ Loc X.env.scope x ∧ ρ1 = ρ.set i (some (.imm d)) ∧ ixOf Γ.N x = some i := by
  unfold stName at h
  split at h
  · rename_i hl
    split at h
    · rename_i i hi
      split at h
      · cases h
      · cases h
        exact ⟨i, by rw [c.nN]; exact ixOf_get hi, by rw [c.sc]; exact loc_of hl, rfl, hi⟩
    · cases h
  · cases h
theorem okT_of {t : Expr} (h : okT Γ t = true) : ∃ x p i, t = .Name x p ∧ locB Γ.sc x = true ∧ ixOf Γ.N x = some i := by
  cases t with
  | Name x p =>
    unfold okT at h
    rw [Bool.and_eq_true] at h
    obtain ⟨i, hi⟩ := Option.isSome_iff_exists.mp h.2
    exact ⟨x, p, i, rfl, h.1, hi⟩
  | _ => cases h
theorem stNames_okT : ∀ {ts : List Expr} {l : List D} {ρ ρ1 : Rho}, stNames Γ ts l ρ = some ρ1 → ts.all (okT Γ) = true ∧ ts.length = l.length
  | [], [], ρ, ρ1, h => ⟨rfl, rfl⟩
  | [], _ :: _, ρ, ρ1, h => by unfold stNames at h; cases h
  | t :: ts, [], ρ, ρ1, h => by
    unfold stNames at h
    split at h
    · rename_i h1 _ ; cases h1
    · rename_i _ _ h1; cases h1
    · cases h
  | t :: ts, d :: ds, ρ, ρ1, h => by
    unfold stNames at h
    split at h
    · rename_i h1 _; cases h1
    · rename_i x p ts' d' ds' e1 e2
      cases e1
      cases e2
      obtain ⟨ρ2, h1, h2⟩ := Option.bind_eq_some_iff.mp h
      obtain ⟨q1, q2⟩ := stNames_okT h2
      unfold stName at h1
      split at h1
      · rename_i hl
        split at h1
        · rename_i i hi
          refine ⟨?_, by simp [q2]⟩
          simp only [List.all_cons, Bool.and_eq_true]
          exact ⟨by show (locB Γ.sc x && (ixOf Γ.N x).isSome) = true; rw [hl, hi]; rfl, q1⟩
        · cases h1
      · cases h1
    · cases h
/-- names that are stored one behind the other -/
theorem names_ok (c : CxS Γ X) : ∀ {ts : List Expr}, ts.all (okT Γ) = true → (assignEach ts X.env).length = ts.length ∧ (assignEach ts X.env).findIdx? (·.1) = none ∧
    ∃ g : TGs, PGs X ts g ∧ ∀ {l : List D} {ρ ρ1 : Rho} {Mo : AS} {C : CM} {H : Hp} {σ : St} {xs : List V} {Q : St → Hp → Prop}, stNames Γ ts l ρ = some ρ1 → Eok X.K Mo C none H σ ρ → DsOk X.K (MM Mo C none) H l xs →
      (∀ C' σ', Eok X.K Mo C' none H σ' ρ1 → Stp Γ.np C H C' none H → Q σ' H) → g xs σ H Q
  | [], _ => by
    refine ⟨rfl, rfl, _, pgs_nil, fun {l ρ ρ1 Mo C H σ xs Q} h E hd k => ?_⟩
    cases l with
    | cons _ _ => unfold stNames at h; cases h
    | nil =>
      cases h
      unfold DsOk at hd
      exact ⟨hd, k _ _ E Stp.refl⟩
  | t :: ts, hok => by
    simp only [List.all_cons, Bool.and_eq_true] at hok
    obtain ⟨x, p, i, rfl, hl, hi⟩ := okT_of hok.1
    obtain ⟨b1, b2, g, g1, g2⟩ := names_ok c hok.2
    have ae : assignEach (.Name x p :: ts) X.env = (false, assign (.Name x p) X.env) :: assignEach ts X.env := rfl
    refine ⟨by rw [ae]; simp [b1], ?_, _, pgs_cons (pg_name (i := i) (by rw [c.nN]; exact c.nd) (by rw [c.nN]; exact ixOf_get hi) (by rw [c.sc]; exact loc_of hl) (.inl (by rw [c.fn]))) g1, fun {l ρ ρ1 Mo C H σ xs Q} h E hd k => ?_⟩
    · rw [ae]
      simp [List.findIdx?_cons, b2]
    · cases l with
      | nil =>
        unfold stNames at h
        cases h
      | cons d ds =>
        unfold stNames at h
        obtain ⟨ρ2, h1, h2⟩ := Option.bind_eq_some_iff.mp h
        obtain ⟨i', q1, q2, q3, q4⟩ := stName_ok c h1
        rw [hi] at q4
        cases q4
        unfold DsOk at hd
        obtain ⟨v, xs, rfl, d1, d2⟩ := hd
        refine ⟨v, xs, rfl, ?_⟩
        have E2 := E.store (i := i) d1
        rw [← q3] at E2
        exact g2 h2 E2 (DsOk.mov (off_stp (np := Γ.np) |>.mov E.out) _ _ d2) fun C' σ' E' S' => k C' σ' E' (off_stp.trans S')
theorem swaps_no {e : Expr} {t : Option Expr} {l : Nat} {env : Env} (h : isComp e = false) : swapsWith e t l env = pure false := by
  cases e <;> first | rfl | cases h

theorem sole_no {t e : Expr} {l : Nat} {env : Env} (h : isComp e = false) : swapsWithSole [t] e l env = pure false := swaps_no h
theorem asg_sub {o i : Expr} {pos : Pos} {env : Env} (h : isSlice i = false) : ∀ v, assign (.Subscript o i pos) env v = (do
      let ov ← holding [v] (eval o env)
      let iv ← holding [v, ov] (eval i env)
      standAt pos
      holding [v, ov, iv] (setItem ov iv v)
      release [v, ov, iv] []) := by
  intro v
  cases i <;> first | rfl | cases h
/-! ### blocks and loops -/
def IhS (n : Nat) : Prop := ∀ (Γ : Gam) (X : Cx), CxS Γ X → ∀ s, PS X s (tS Γ.np X.K (evS n Γ s))
theorem blockW_ok {es : Stmt → Rho → Option (Out × Rho)} (hes : ∀ s, PS X s (tS Γ.np X.K (es s))) : ∀ ss, PSs X ss (tS Γ.np X.K (blockW es ss))
  | [] => by
    refine PSs.of fun D σ H h => ⟨_, pss_nil, ?_⟩
    obtain ⟨Mo, C, ρ, o, ρ', E, hF, k⟩ := h
    cases hF
    exact k C none σ H E Stp.refl rfl
  | s :: ss => by
    refine PSs.of fun D σ H h => ⟨_, pss_cons (hes s) (blockW_ok hes ss), ?_⟩
    obtain ⟨Mo, C, ρ, o, ρ', E, hF, k⟩ := h
    unfold blockW at hF
    obtain ⟨p, h1, h2⟩ := Option.bind_eq_some_iff.mp hF
    obtain ⟨o1, ρ1⟩ := p
    refine ⟨Mo, C, ρ, o1, ρ1, E, h1, fun C1 r1 σ1 H1 E1 S1 R1 => ?_⟩
    cases o1 with
    | nx =>
      cases R1
      exact ⟨Mo, C1, ρ1, o, ρ', E1, h2, fun C2 r2 σ2 H2 E2 S2 R2 => k C2 r2 σ2 H2 E2 (S1.trans S2) R2⟩
    | brk => cases h2; exact k C1 r1 σ1 H1 E1 S1 R1
    | cnt => cases h2; exact k C1 r1 σ1 H1 E1 S1 R1
    | ret e => cases h2; exact k C1 r1 σ1 H1 E1 S1 R1

theorem for_ok (ihE : ∀ n, IhE n) {n : Nat} (c : CxS Γ X) {tg iter : Expr} {body : List Stmt} {pos : Pos} {g : TG} {store : D → Rho → Option Rho} {bodyF : Rho → Option (Out × Rho)} (tb : Bool) (htb : tb = true → isTup tg = true) (hset : isSet iter = false)
    (hg : PG X tg g) (hb : PSs X body (tS Γ.np X.K bodyF))
    (hst : ∀ {Mo : AS} {C : CM} {H : Hp} {σ : St} {ρ ρ1 : Rho} {x : V} {d : D} {Q : St → Hp → Prop}, Eok X.K Mo C none H σ ρ → store d ρ = some ρ1 → DOk X.K (MM Mo C none) H d x → (∀ C' σ', Eok X.K Mo C' none H σ' ρ1 → Stp Γ.np C H C' none H → Q σ' H) → g x σ H Q) :
    PS X (.For tg iter body [] pos) (tS Γ.np X.K fun ρ => (evIt tb Γ (ev n Γ false) iter ρ).bind fun p => forTurns store bodyF p.1 p.2) := by
  refine PS.of fun De σ H h => ?_
  obtain ⟨Mo, C, ρ, o, ρ', E, hF, k⟩ := h
  obtain ⟨p, h1, h2⟩ := Option.bind_eq_some_iff.mp hF
  obtain ⟨items, ρ1⟩ := p
  obtain ⟨wi, w1, w2⟩ := it_ok (ihE n) c.toCxOk E h1
  refine ⟨_, ps_for (by rw [c.xe]; exact PassesOwn.never) c.calm (w1 tg htb) hg hb (set_no hset), ?_⟩
  refine w2 _ fun C1 J H1 E1 S1 W1 => ?_
  let At : List D → St → Hp → Prop := fun ds σ2 H2 => ∃ C2 ρ2, Eok X.K Mo C2 none H2 σ2 ρ2 ∧ forTurns store bodyF ds ρ2 = some (o, ρ') ∧ Stp Γ.np C1 H1 C2 none H2
  have start : At items σ H1 := ⟨C1, ρ1, E1, h2, Stp.refl⟩
  have turn : ∀ {d : D} {ds : List D} {j : Nat} {x : V} {σ2 : St} {H2 H2' : Hp}, items[j]? = some d → J.yld j H2 x H2' → At (d :: ds) σ2 H2 →
      g x σ2 H2' fun σ3 H3 => tS Γ.np X.K bodyF { De with nx := At ds, ct := At ds, bk := De.nx } σ3 H3 := by
    rintro d ds j x σ2 H2 H2' hj hy ⟨C2, ρ2, E2, hT, S2⟩
    obtain ⟨E2, Sy, hx⟩ := W1.yld (np := Γ.np) hj (S2.mov E1.out) E2 hy
    have S2 := S2.trans Sy
    unfold forTurns at hT
    obtain ⟨ρ3, q1, q2⟩ := Option.bind_eq_some_iff.mp hT
    obtain ⟨r, q3, q4⟩ := Option.bind_eq_some_iff.mp q2
    obtain ⟨o1, ρ4⟩ := r
    refine hst E2 q1 hx fun C3 σ3 E3 S3 => ?_
    refine ⟨Mo, C3, ρ3, o1, ρ4, E3, q3, fun C4 r4 σ4 H4 E4 S4 R4 => ?_⟩
    have S14 := S2.trans (S3.trans S4)
    cases o1 with
    | nx => cases R4; exact ⟨C4, ρ4, E4, q4, S14⟩
    | cnt => cases R4; exact ⟨C4, ρ4, E4, q4, S14⟩
    | brk =>
      cases q4
      cases R4
      exact k C4 none σ4 H4 E4 (S1.trans S14) rfl
    | ret e =>
      cases q4
      exact k C4 r4 σ4 H4 E4 (S1.trans S14) trivial
  have done : ∀ {σ2 : St} {H2 : Hp}, At [] σ2 H2 → De.nx σ2 H2 := by
    rintro σ2 H2 ⟨C2, ρ2, E2, hT, S2⟩
    cases hT
    exact k C2 none σ2 H2 E2 (S1.trans S2) rfl
  refine for_gen (n := items.length) (fun j σ2 H2 => At (items.drop j) σ2 H2) start (fun j σ2 H2 hj A => ?_) (fun σ2 H2 A => ?_) (fun j x σ2 H2 H2' hj A y => ?_) (fun σ2 H2 A => ?_)
  · obtain ⟨C2, _, _, _, S2⟩ := A
    exact W1.go j hj (S2.mov E1.out)
  · obtain ⟨C2, _, _, _, S2⟩ := A
    exact W1.stop (S2.mov E1.out)
  · have hd : items.drop j = items[j] :: items.drop (j + 1) := List.drop_eq_getElem_cons hj
    rw [hd] at A
    exact turn (by simp [hj]) y A
  · rw [List.drop_length] at A
    exact done A
end
end Mx
set_option maxHeartbeats 400000
namespace Mx
open PySem L2

section
variable {Γ : Gam} {X : Cx} {n : Nat}
theorem swaps_lc {elt : Expr} {gs : List Comprehension} {scope : Scope} {pos py : Pos} {y : Str} {l : Nat} {env : Env} :
    swapsWith (.ListComp elt gs scope pos) (some (.Name y py)) l env = pure (env.blockKind == .function && env.kindOf y == some .local && py.line == pos.line && !(scope.names.any fun (n, k) => n == y && (k == .local || k == .cell))) := rfl
theorem expr_ps (c : CxS Γ X) (ihE : IhE n) {e : Expr} {pos : Pos} (hc : isComp e = false) : PS X (.Expr e pos) (tS Γ.np X.K fun ρ => (ev n Γ false e ρ).bind fun p => some (.nx, p.2)) := by
  refine PS.of fun De σ H h => ⟨_, ps_expr (ihE Γ X c.toCxOk e) (swaps_no hc), ?_⟩
  obtain ⟨Mo, C, ρ, o, ρ', E, hF, k⟩ := h
  obtain ⟨p, h1, h2⟩ := Option.bind_eq_some_iff.mp hF
  cases h2
  exact ⟨Mo, C, ρ, p.1, p.2, E, h1, fun C' r v H' E' o' S' => k C' none σ H' E'.drop S'.drop rfl⟩
theorem ret_ps (c : CxS Γ X) (ihE : IhE n) {e : Expr} {pos : Pos} : PS X (.Return (some e) pos) (tS Γ.np X.K fun ρ => (ev n Γ false e ρ).bind fun p => some (.ret p.1, p.2)) := by
  refine PS.of fun De σ H h => ⟨_, ps_ret (ihE Γ X c.toCxOk e), ?_⟩
  obtain ⟨Mo, C, ρ, o, ρ', E, hF, k⟩ := h
  obtain ⟨p, h1, h2⟩ := Option.bind_eq_some_iff.mp hF
  cases h2
  refine ⟨Mo, C, ρ, p.1, p.2, E, h1, fun C' r v H' E' o' S' => ?_⟩
  exact k C' r σ H' E' S' trivial v o'

/-- a value and where it goes -/
theorem asg_name (c : CxS Γ X) {x : Str} {F : Rho → Option (En × Rho)} {De : Ends} {σ : St} {H : Hp} {Mo : AS} {C : CM} {ρ ρ' : Rho} {o : Out}
    (E : Eok X.K Mo C none H σ ρ) (hF : ((F ρ).bind fun p => match p.1 with
      | .imm d => (stName Γ x d p.2).bind fun ρ1 => some (Out.nx, ρ1)
      | .cel l => if locB Γ.sc x then match ixOf Γ.N x with
        | some i => if i < Γ.np then (stName Γ x (.lst l) p.2).bind fun ρ1 => some (Out.nx, ρ1) else if i < p.2.length then some (Out.nx, p.2.set i (some (.cel l))) else none
        | none => none
        else none) = some (o, ρ')) (k : ∀ C' r σ' H', Eok X.K Mo C' r H' σ' ρ' → Stp Γ.np C H C' r H' → retless o r → OutP X.K Mo C' r H' De σ' o) :
    ∃ i e ρ1, X.N[i]? = some x ∧ Loc X.env.scope x ∧ F ρ = some (e, ρ1) ∧ ∀ C' r v H', Eok X.K Mo C' r H' σ ρ1 → EnOk X.K Mo C' r H' v e → Stp Γ.np C H C' r H' → gName i v σ H' De.nx := by
  obtain ⟨p, h1, h2⟩ := Option.bind_eq_some_iff.mp hF
  obtain ⟨e, ρ1⟩ := p
  have imm : ∀ {d : D}, e.toD = d → (stName Γ x d ρ1).bind (fun ρ1 => some (Out.nx, ρ1)) = some (o, ρ') → ∃ i e ρ1, X.N[i]? = some x ∧ Loc X.env.scope x ∧ F ρ = some (e, ρ1) ∧ ∀ C' r v H', Eok X.K Mo C' r H' σ ρ1 → EnOk X.K Mo C' r H' v e → Stp Γ.np C H C' r H' → gName i v σ H' De.nx := by
    intro d hd hh
    obtain ⟨ρ2, q1, q2⟩ := Option.bind_eq_some_iff.mp hh
    cases q2
    obtain ⟨i, z1, z2, z3, _⟩ := stName_ok c q1
    refine ⟨i, e, ρ1, z1, z2, h1, fun C' r v H' E' o' S' => ?_⟩
    have d' := EnOk.toD E' o'
    rw [hd] at d'
    have E2 := E'.drop.store (i := i) d'
    rw [← z3] at E2
    exact k _ none _ H' E2 (S'.drop.trans off_stp) rfl
  cases e with
  | imm d => exact imm rfl h2
  | cel l =>
    simp only at h2
    split at h2
    · rename_i hl
      split at h2
      · rename_i i hi
        split at h2
        · exact imm rfl h2
        · rename_i hnp
          split at h2
          · rename_i hlen
            cases h2
            refine ⟨i, .cel l, ρ1, by rw [c.nN]; exact ixOf_get hi, by rw [c.sc]; exact loc_of hl, h1, fun C' r v H' E' o' S' => ?_⟩
            obtain ⟨a, xs, hr, hv, hH, hd⟩ := o'
            subst hr hv
            obtain ⟨E2, on_⟩ := E'.storeCel (i := i) hlen hH hd
            refine k _ none _ H' E2 ⟨S'.keep, fun j b h => ?_, fun _ z => (nomatch z), fun j b hj h => ?_⟩ rfl
            · rcases on_ j b h with q | ⟨_, q⟩
              · exact S'.new j b q
              · rw [q]; exact S'.res a rfl
            · rcases on_ j b h with q | ⟨q, _⟩
              · exact S'.par j b hj q
              · omega
          · cases h2
      · cases h2
    · cases h2

theorem stmt_ok (hS : IhS n) : IhS (n + 1) := by
  intro Γ X c s
  have ihE : ∀ n, IhE n := fun n => (ih_all n).1
  have ihT : ∀ n, IhT n := fun n => (ih_all n).2
  have ih := ihE n Γ X c.toCxOk
  have nd : X.N.Nodup := by rw [c.nN]; exact c.nd
  refine PS.of fun De σ H h => ?_
  obtain ⟨Mo, C, ρ, o, ρ', E, hF, k⟩ := h
  unfold evS at hF
  split at hF
  -- pass, break, continue
  · cases hF; exact ⟨_, ps_pass, k C none σ H E Stp.refl rfl⟩
  · cases hF; exact ⟨_, ps_break, k C none σ H E Stp.refl rfl⟩
  · cases hF; exact ⟨_, ps_continue, k C none σ H E Stp.refl rfl⟩
  -- an expression
  · rename_i e pos
    split at hF
    · cases hF; exact ⟨_, ps_doc, k C none σ H E Stp.refl rfl⟩
    · rename_i x xp m ap a cp
      split at hF
      · rename_i hm
        obtain ⟨rfl, ns, hline⟩ := hm
        split at hF
        · rename_i kk hk
          obtain ⟨p, h1, h2⟩ := Option.bind_eq_some_iff.mp hF
          obtain ⟨pv, l0, hl0⟩ := celOf_ok c.toCxOk hk
          obtain ⟨a0, xs0, _, g2, g3, _⟩ := E.cel kk l0 hl0
          split at h2
          · rename_i l hcel
            split at h2
            · rename_i hz
              cases h2
              refine ⟨_, ps_expr (pe_bm PySem.F.plainAttrs_list PySem.F.slot_list_append PySem.F.type_list_append mt_append pv (pa_cons (ih a).toI pa_nil (star_no ns)) rfl (by rw [star_no ns]; rfl) hline (star_no ns) rfl) rfl, ?_⟩
              refine ⟨_, g2, .inl ⟨rfl, _, SqL.of g3⟩, ?_⟩
              refine ⟨Mo, C, ρ, p.1, p.2, E, h1, fun C1 v H1 E1 d1 S1 => ?_⟩
              obtain ⟨a1, xs1, z1, z2, z3, z4⟩ := E1.cel kk l hcel
              rw [g2] at z2
              cases z2
              refine ⟨_, xs1, v, rfl, rfl, z3, by rw [z4.len]; exact line_lt hz, ?_⟩
              obtain ⟨E2, S2⟩ := E1.writeCel (np := Γ.np) hcel z1 (DsOk.app z4 (DsOk.cons d1 DsOk.nil))
              exact k C1 none σ _ E2 (S1.trans S2) rfl
            · cases h2
          · cases h2
        · cases hF
      · cases hF
    · split at hF
      · cases hF
      · rename_i hc
        exact ⟨_, expr_ps c (ihE n) (by simpa using hc), Mo, C, ρ, o, ρ', E, hF, k⟩
  -- return
  · cases hF
    exact ⟨_, ps_retN, k C none σ H E Stp.refl trivial _ ⟨rfl, dNon.mpr rfl⟩⟩
  · rename_i e pos
    split at hF
    · rename_i i hi
      split at hF
      · exact ⟨_, ret_ps c (ihE n), Mo, C, ρ, o, ρ', E, hF, k⟩
      · rename_i hnp
        split at hF
        · rename_i l hl
          cases hF
          obtain ⟨pv, _⟩ := celOf_ok c.toCxOk hi
          obtain ⟨a, xs, g1, g2, g3, g4⟩ := E.cel i l hl
          refine ⟨_, ps_ret pv, _, g2, ?_⟩
          -- the list leaves its name
          have m : Mov (MM Mo C none) H (MM Mo (CM.off C i) (some a)) H := by
            refine mov_iff fun b => ?_
            rintro (q | ⟨j, q⟩ | q)
            · exact .inl q
            · exact .inr (.inl ⟨j, (off_some q).2⟩)
            · cases q; exact .inr (.inl ⟨i, g1⟩)
          have E1 := E.wipe (i := i)
          have E2 : Eok X.K Mo (CM.off C i) (some a) H (σ.set i none) (ρ.set i none) := by
            have m' : ∀ {d : D} {v : V}, DOk X.K (MM Mo C none) H d v → DOk X.K (MM Mo (CM.off C i) (some a)) H d v := fun q => DOk.mov m _ _ q
            refine ⟨E1.len, fun j d e => ?_, fun j l' e => ?_, E1.only, E1.inj, E1.out, E1.apart, fun b z => ?_⟩
            · by_cases z : j = i
              · subst z
                rw [List.getElem?_set_self (List.getElem?_eq_some_iff.mp hl).1] at e
                cases e
              · obtain ⟨v, q1, q2⟩ := E.imm j d (by rw [List.getElem?_set_ne (Ne.symm z)] at e; exact e)
                exact ⟨v, by rw [List.getElem?_set_ne (Ne.symm z)]; exact q1, m' q2⟩
            · by_cases z : j = i
              · subst z
                rw [List.getElem?_set_self (List.getElem?_eq_some_iff.mp hl).1] at e
                cases e
              · obtain ⟨b, ys, q1, q2, q3, q4⟩ := E.cel j l' (by rw [List.getElem?_set_ne (Ne.symm z)] at e; exact e)
                exact ⟨b, ys, by rw [off_ne z]; exact q1, by rw [List.getElem?_set_ne (Ne.symm z)]; exact q2, q3, DsOk.mov m _ _ q4⟩
            · cases z
              refine ⟨fun j hj => ?_, E.apart i a g1⟩
              obtain ⟨z, q⟩ := off_some hj
              exact z (E.inj j i a q g1)
          exact k (CM.off C i) (some a) (σ.set i none) H E2 ⟨fun _ _ h _ => h, fun j b h => .inl ⟨j, (off_some h).2⟩, fun b z => by cases z; exact .inl ⟨i, g1⟩, fun j b _ h => (off_some h).2⟩ trivial _ ⟨a, xs, rfl, rfl, g3, DsOk.mov m _ _ g4⟩
        · cases hF
    · exact ⟨_, ret_ps c (ihE n), Mo, C, ρ, o, ρ', E, hF, k⟩
  -- a name = ..
  · rename_i x xp e pos
    obtain ⟨i, en, ρ1, z1, z2, z3, z4⟩ := asg_name c E hF k
    have hfn : X.fn x = true ∨ X.env.scope.names.lookup x = some .local := .inl (by rw [c.fn])
    by_cases hc : isComp e = false
    · exact ⟨_, ps_set nd z1 z2 (ih e) (swaps_no hc) hfn, Mo, C, ρ, en, ρ1, E, z3, z4⟩
    · cases e with
      | ListComp elt gs scope cpos =>
        cases n with
        | zero => cases z3
        | succ m =>
          obtain ⟨tg, iter, ifs, wi, g, tt, te, own, e1, P, hs, R⟩ := comp_reads (Q := fun v H' => gName i v σ H' De.nx) (ihE m) (ihT m) c.toCxOk E z3 z4
          subst e1
          cases hsw : (X.env.blockKind == .function && X.env.kindOf x == some .local && xp.line == cpos.line && !(scope.names.any fun (n, k) => n == x && (k == .local || k == .cell))) with
          | false => exact ⟨_, ps_set nd z1 z2 (pe_lc c.calm nd P.hi P.ok P.hg P.ht P.he (set_no hs)) (by rw [swaps_lc, hsw]) hfn, R⟩
          | true =>
            have hloc : X.env.scope.names.lookup x = some .local := by
              simp only [Bool.and_eq_true] at hsw
              have := hsw.1.1.2
              exact (by simpa using this : X.env.kindOf x = some .local)
            exact ⟨_, ps_setLc c.calm nd z1 hloc (by rw [swaps_lc, hsw]) P.hi P.ok P.hg P.ht P.he (set_no hs), R⟩
      | _ =>
        cases n with
        | zero => cases z3
        | succ m => first | (exact absurd rfl hc; done) | cases z3
  -- a, b = ..
  · rename_i ts k1 p1 e pos
    split at hF
    · rename_i hsw
      rw [Bool.and_eq_true, Bool.not_eq_true'] at hsw
      obtain ⟨hsw, hcomp⟩ := hsw
      obtain ⟨p, h1, h2⟩ := Option.bind_eq_some_iff.mp hF
      split at h2
      · rename_i l hl
        obtain ⟨ρ1, h3, h4⟩ := Option.bind_eq_some_iff.mp h2
        cases h4
        obtain ⟨b0, b3⟩ := stNames_okT h3
        obtain ⟨b1, b2, g, g1, g2⟩ := names_ok c b0
        have gen : swappedStores [.Tuple ts k1 p1] e X.env = pure none → ∃ t, PS X (.Assign [.Tuple ts k1 p1] e pos) t ∧ t De σ H := by
          intro hw
          refine ⟨_, ps_asg (ih e).toI (pg_tup c.calm g1 (by rw [b1, b3]) b2) (sole_no hcomp) hw rfl, ?_⟩
          refine ⟨Mo, C, ρ, p.1, p.2, E, h1, fun C1 v H1 E1 d1 S1 => ?_⟩
          rw [hl] at d1
          obtain ⟨a, xs, rfl, t, r⟩ := dTup.mp d1
          exact ⟨a, xs, rfl, t.sq, r.len, g2 h3 E1 r fun C' σ' E' S' => k C' none σ' H1 E' (S1.trans S') rfl⟩
        unfold swOk at hsw
        split at hsw
        · rename_i vs k2 p2
          have kf : (fun x => Γ.sc.names.lookup x) = X.env.kindOf := by rw [← c.sc]; rfl
          have bk : bkOf Γ.sc = X.env.blockKind := by rw [← c.sc]; rfl
          rw [kf, bk] at hsw
          split at hsw
          · cases hsw
          · rename_i hw
            exact gen (swp_is hw)
          · rename_i names hw
            rw [Bool.and_eq_true, decide_eq_true_eq] at hsw
            obtain ⟨hpar, hlen⟩ := hsw
            have hw2 := swp_is (k1 := k1) (k2 := k2) (p1 := p1) (p2 := p2) hw
            cases n with
            | zero => cases h1
            | succ m =>
              have h1' : evLw (ev m Γ false) vs ρ = some (l, p.2) := by
                unfold immF at h1
                unfold ev at h1
                split at h1
                · rename_i e' ρ'' he
                  obtain ⟨q, y1, y2⟩ := Option.bind_eq_some_iff.mp he
                  split at y2
                  · cases y2
                    cases h1
                    cases hl
                    exact y1
                  · cases y2
                · cases h1
              have ihm := ihE m Γ X c.toCxOk
              unfold parOk at hpar
              split at hpar
              · rename_i x px y py
                simp only [Bool.and_eq_true, decide_eq_true_eq] at hpar
                obtain ⟨⟨⟨rfl, lx⟩, ly⟩, nxy⟩ := hpar
                match vs, hlen with
                | [a, b], _ =>
                  match l, b3 with
                  | [d1, d2], _ =>
                    unfold stNames at h3
                    obtain ⟨ρa, y1, y2⟩ := Option.bind_eq_some_iff.mp h3
                    unfold stNames at y2
                    obtain ⟨ρb, y3, y4⟩ := Option.bind_eq_some_iff.mp y2
                    unfold stNames at y4
                    cases y4
                    obtain ⟨i, u1, u2, u3, u4⟩ := stName_ok c y1
                    obtain ⟨j, w1, w2, w3, w4⟩ := stName_ok c y3
                    refine ⟨_, ps_par c.calm nd u1 w1 (fun z => nxy (by rw [u4, w4, z])) (by rw [c.sc]; exact lx) (by rw [c.sc]; exact ly) (evLw_ok ihm [a, b]) hw2 (sole_no hcomp), ?_⟩
                    refine ⟨Mo, C, ρ, _, _, E, h1', fun C1 vs H1 E1 dd S1 => ?_⟩
                    unfold DsOk at dd
                    obtain ⟨v, r1, rfl, e1, dd⟩ := dd
                    unfold DsOk at dd
                    obtain ⟨w, r2, rfl, e2, dd⟩ := dd
                    unfold DsOk at dd
                    subst dd
                    have E2 := E1.store (i := i) e1
                    rw [← u3] at E2
                    have E3 := E2.store (i := j) (DOk.mov (off_stp (np := Γ.np) |>.mov E1.out) _ _ e2)
                    rw [← w3] at E3
                    exact ⟨v, w, rfl, k _ none _ H1 E3 (S1.trans (off_stp.trans off_stp)) rfl⟩
              · rename_i x px y py z pz
                simp only [Bool.and_eq_true, decide_eq_true_eq] at hpar
                obtain ⟨⟨⟨⟨⟨⟨rfl, lx⟩, ly⟩, lz⟩, nxy⟩, nxz⟩, nyz⟩ := hpar
                match vs, hlen with
                | [a, b, a3], _ =>
                  match l, b3 with
                  | [d1, d2, d3], _ =>
                    unfold stNames at h3
                    obtain ⟨ρa, y1, y2⟩ := Option.bind_eq_some_iff.mp h3
                    unfold stNames at y2
                    obtain ⟨ρb, y3, y4⟩ := Option.bind_eq_some_iff.mp y2
                    unfold stNames at y4
                    obtain ⟨ρc, y5, y6⟩ := Option.bind_eq_some_iff.mp y4
                    unfold stNames at y6
                    cases y6
                    obtain ⟨i, u1, u2, u3, u4⟩ := stName_ok c y1
                    obtain ⟨j, w1, w2, w3, w4⟩ := stName_ok c y3
                    obtain ⟨m3, t1, t2, t3, t4⟩ := stName_ok c y5
                    refine ⟨_, ps_par3 c.calm nd u1 w1 t1 (fun z => nxy (by rw [u4, w4, z])) (fun z => nxz (by rw [u4, t4, z])) (fun z => nyz (by rw [w4, t4, z])) (by rw [c.sc]; exact lx) (by rw [c.sc]; exact ly) (by rw [c.sc]; exact lz) (evLw_ok ihm [a, b, a3]) hw2 (sole_no hcomp), ?_⟩
                    refine ⟨Mo, C, ρ, _, _, E, h1', fun C1 vs H1 E1 dd S1 => ?_⟩
                    unfold DsOk at dd
                    obtain ⟨v, r1, rfl, e1, dd⟩ := dd
                    unfold DsOk at dd
                    obtain ⟨w, r2, rfl, e2, dd⟩ := dd
                    unfold DsOk at dd
                    obtain ⟨w3', r3, rfl, e3, dd⟩ := dd
                    unfold DsOk at dd
                    subst dd
                    have E2 := E1.store (i := i) e1
                    rw [← u3] at E2
                    have E3 := E2.store (i := j) (DOk.mov (off_stp (np := Γ.np) |>.mov E1.out) _ _ e2)
                    rw [← w3] at E3
                    have E4 := E3.store (i := m3) (DOk.mov ((off_stp (np := Γ.np) |>.trans off_stp).mov E1.out) _ _ e3)
                    rw [← t3] at E4
                    exact ⟨v, w, w3', rfl, k _ none _ H1 E4 (S1.trans (off_stp.trans (off_stp.trans off_stp))) rfl⟩
              · cases hpar
        · rename_i hnt
          refine gen ?_
          cases e with
          | Tuple vs k2 p2 => exact absurd rfl (hnt vs k2 p2)
          | _ => rfl
      · cases h2
    · cases hF
  -- x[i] = ..
  · rename_i x xp i sp e pos
    split at hF
    · cases hF
    · rename_i hno
      have hno : isComp e = false ∧ isSlice i = false := by simpa using hno
      obtain ⟨p, h1, h2⟩ := Option.bind_eq_some_iff.mp hF
      split at h2
      · rename_i kk hk
        obtain ⟨q, h3, h4⟩ := Option.bind_eq_some_iff.mp h2
        split at h4
        · rename_i j l hq hcel
          obtain ⟨m, h5, h6⟩ := Option.bind_eq_some_iff.mp h4
          cases h6
          obtain ⟨pv, l0, hl0⟩ := celOf_ok c.toCxOk hk
          refine ⟨_, ps_asg (ih e).toI (pg_sub pv (ih i).toI set_list (asg_sub hno.2)) (sole_no hno.1) rfl rfl, ?_⟩
          refine ⟨Mo, C, ρ, p.1, p.2, E, h1, fun C1 v H1 E1 d1 S1 => ?_⟩
          obtain ⟨a0, xs0, _, g2, _, _⟩ := E1.cel kk l0 hl0
          refine ⟨_, g2, ?_⟩
          refine ⟨Mo, C1, p.2, q.1, q.2, E1, h3, fun C2 u H2 E2 d2 S2 => ?_⟩
          rw [hq, dInt] at d2
          subst d2
          obtain ⟨a1, xs1, z1, z2, z3, z4⟩ := E2.cel kk l hcel
          rw [g2] at z2
          cases z2
          refine ⟨_, xs1, j, m, rfl, rfl, z3, by rw [z4.len]; exact h5, ?_⟩
          obtain ⟨E3, S3⟩ := E2.writeCel (np := Γ.np) hcel z1 (DsOk.set (DOk.mov (S2.mov E1.out) _ _ d1) m z4)
          exact k C2 none σ _ E3 ((S1.trans S2).trans S3) rfl
        · cases h4
      · cases h2
  -- if
  · rename_i t a b pos
    obtain ⟨p, h1, h2⟩ := Option.bind_eq_some_iff.mp hF
    refine ⟨_, ps_if (ihT n Γ X c.toCxOk t) (blockW_ok (hS Γ X c) a) (blockW_ok (hS Γ X c) b), Mo, C, ρ, p.1, p.2, E, h1, fun C1 H1 E1 S1 => ?_⟩
    cases hp : p.1 with
    | true =>
      rw [hp, if_pos rfl] at h2
      rw [if_pos rfl]
      exact ⟨Mo, C1, p.2, o, ρ', E1, h2, fun C' r σ' H' E' S' => k C' r σ' H' E' (S1.trans S')⟩
    | false =>
      rw [hp, if_neg (by simp)] at h2
      rw [if_neg (by simp)]
      exact ⟨Mo, C1, p.2, o, ρ', E1, h2, fun C' r σ' H' E' S' => k C' r σ' H' E' (S1.trans S')⟩
  -- for
  · rename_i y yp iter body pos
    split at hF
    · cases hF
    · rename_i hset
      simp only [Bool.or_eq_true, Bool.not_eq_true', not_or, Bool.not_eq_true, Bool.not_eq_false] at hset
      obtain ⟨x', p', i, e1, hl, hi⟩ := okT_of hset.2
      cases e1
      refine ⟨_, for_ok ihE c (store := stName Γ y) false (fun h => by cases h) hset.1 (pg_name (i := i) nd (by rw [c.nN]; exact ixOf_get hi) (by rw [c.sc]; exact loc_of hl) (.inl (by rw [c.fn]))) (blockW_ok (hS Γ X c) body) (fun {Mo C H σ ρ ρ1 x d Q} E h hd k => ?_), Mo, C, ρ, o, ρ', E, hF, k⟩
      obtain ⟨i', _, _, q3, q4⟩ := stName_ok c h
      rw [hi] at q4
      cases q4
      have E2 := E.store (i := i) hd
      rw [← q3] at E2
      exact k _ _ E2 off_stp
  · rename_i ts k1 p1 iter body pos
    split at hF
    · cases hF
    · rename_i hset
      simp only [Bool.or_eq_true, Bool.not_eq_true', not_or, Bool.not_eq_true, Bool.not_eq_false] at hset
      obtain ⟨b1, b2, g, g1, g2⟩ := names_ok c hset.2
      refine ⟨_, for_ok ihE c true (fun _ => rfl) hset.1 (pg_tup c.calm g1 b1 b2) (blockW_ok (hS Γ X c) body) (fun {Mo C H σ ρ ρ1 x d Q} E h hd k => ?_), Mo, C, ρ, o, ρ', E, hF, k⟩
      split at h
      · rename_i l
        obtain ⟨a, xs, rfl, t, r⟩ := dTup.mp hd
        exact ⟨a, xs, rfl, t.sq, by rw [r.len, (stNames_okT h).2], g2 h E r k⟩
      · cases h
  · cases hF
end
end Mx
set_option maxHeartbeats 400000
namespace Mx
open PySem L2

/-! ## Defs -/
def outsOf : List En → Rho → Option (List (Option (List D)))
  | [], _ => some []
  | .imm _ :: es, _ :: ρ => (outsOf es ρ).bind fun q => some (none :: q)
  | .cel _ :: es, some (.cel l) :: ρ => (outsOf es ρ).bind fun q => some (some l :: q)
  | _, _ => none
def padded (N : List Str) (ens : List En) : Rho := ens.map some ++ List.replicate (N.length - ens.length) none
def fuel : Nat := 60
def runBody (Γ : Gam) (body : List Stmt) (ens : List En) : Option (En × List (Option (List D))) :=
  (blockW (evS fuel Γ) body (padded Γ.N ens)).bind fun p => match p.1 with
    | .ret e => (outsOf ens p.2).bind fun q => some (e, q)
    | .nx => (outsOf ens p.2).bind fun q => some (.imm .non, q)
    | _ => none
structure Rec where
  N : List Str
  ps : List Str
  st : Stmt
  shapes : List (Nat × List Str)
  cm : List Bool
def gamOf (G : Str → Option D) (B : Str → Bool) (Phi : Str → Option Fn) (r : Rec) : Gam := ⟨r.N, r.ps.length, defScope r.st, Phi, G, B⟩
def callF (T : List (Str × Rec)) (G : Str → Option D) (B : Str → Bool) : Nat → Str → Option Fn
  | 0, _ => none
  | k + 1, x => (T.lookup x).bind fun r => some ⟨r.ps, runBody (gamOf G B (callF T G B k) r) (defBody r.st), r.shapes, r.cm⟩

theorem outsOf_is : ∀ {ens : List En} {ρ : Rho} {outs : List (Option (List D))}, outsOf ens ρ = some outs → outs.length = ens.length ∧ ∀ (i : Nat) (l : List D), ens[i]? = some (.cel l) → ∃ l', ρ[i]? = some (some (.cel l')) ∧ outs[i]? = some (some l')
  | [], ρ, outs, h => by cases h; exact ⟨rfl, fun i l e => by simp at e⟩
  | .imm d :: es, [], outs, h => by unfold outsOf at h; cases h
  | .imm d :: es, o :: ρ, outs, h => by
    unfold outsOf at h
    obtain ⟨q, h1, h2⟩ := Option.bind_eq_some_iff.mp h
    cases h2
    obtain ⟨a1, a2⟩ := outsOf_is h1
    refine ⟨by simp [a1], fun i l e => ?_⟩
    cases i with
    | zero => simp at e
    | succ i =>
      obtain ⟨l', z1, z2⟩ := a2 i l (by simpa using e)
      exact ⟨l', by simpa using z1, by simpa using z2⟩
  | .cel l0 :: es, [], outs, h => by unfold outsOf at h; cases h
  | .cel l0 :: es, none :: ρ, outs, h => by unfold outsOf at h; cases h
  | .cel l0 :: es, some (.imm d) :: ρ, outs, h => by unfold outsOf at h; cases h
  | .cel l0 :: es, some (.cel l1) :: ρ, outs, h => by
    unfold outsOf at h
    obtain ⟨q, h1, h2⟩ := Option.bind_eq_some_iff.mp h
    cases h2
    obtain ⟨a1, a2⟩ := outsOf_is h1
    refine ⟨by simp [a1], fun i l e => ?_⟩
    cases i with
    | zero => exact ⟨l1, rfl, rfl⟩
    | succ i =>
      obtain ⟨l', z1, z2⟩ := a2 i l (by simpa using e)
      exact ⟨l', by simpa using z1, by simpa using z2⟩
theorem outsOf_imm : ∀ {ens : List En} {ρ : Rho} {outs : List (Option (List D))}, outsOf ens ρ = some outs → ∀ (i : Nat) (d : D), ens[i]? = some (.imm d) → outs[i]? = some none
  | [], ρ, outs, h, i, d, e => by simp at e
  | .imm d :: es, [], outs, h, _, _, _ => by unfold outsOf at h; cases h
  | .imm d :: es, o :: ρ, outs, h, i, d', e => by
    unfold outsOf at h
    obtain ⟨q, h1, h2⟩ := Option.bind_eq_some_iff.mp h
    cases h2
    cases i with
    | zero => rfl
    | succ i => simpa using outsOf_imm h1 i d' (by simpa using e)
  | .cel l0 :: es, [], outs, h, _, _, _ => by unfold outsOf at h; cases h
  | .cel l0 :: es, none :: ρ, outs, h, _, _, _ => by unfold outsOf at h; cases h
  | .cel l0 :: es, some (.imm d) :: ρ, outs, h, _, _, _ => by unfold outsOf at h; cases h
  | .cel l0 :: es, some (.cel l1) :: ρ, outs, h, i, d', e => by
    unfold outsOf at h
    obtain ⟨q, h1, h2⟩ := Option.bind_eq_some_iff.mp h
    cases h2
    cases i with
    | zero => simp at e
    | succ i => simpa using outsOf_imm h1 i d' (by simpa using e)
section
variable {K : Frg} {Mo : AS} {C C' : CM} {H H' : Hp} {σ' : St} {ρ' : Rho} {vs : List V} {ens : List En} {N : List Str} {r : Option Addr}
theorem Eok.pad (E : Eok K Mo C none H (vs.map some) (ens.map some)) : Eok K Mo C none H (L2.start N vs) (padded N ens) := by
  have hl : vs.length = ens.length := by have := E.len; simpa using this
  have lk : ∀ {i : Nat} {e : En}, (padded N ens)[i]? = some (some e) → (ens.map some)[i]? = some (some e) := by
    intro i e h
    unfold padded at h
    by_cases hi : i < ens.length
    · rw [List.getElem?_append_left (by simpa using hi)] at h
      exact h
    · rw [List.getElem?_append_right (by simpa using hi), List.getElem?_replicate] at h
      split at h <;> cases h
  have lr : ∀ {i : Nat} {v : V}, (vs.map some)[i]? = some (some v) → (L2.start N vs)[i]? = some (some v) := by
    intro i v h
    have hi : i < vs.length := by have := (List.getElem?_eq_some_iff.mp h).1; simpa using this
    unfold L2.start
    rw [List.getElem?_append_left (by simpa using hi)]
    exact h
  have lb : ∀ {i : Nat} {e : En}, (ens.map some)[i]? = some (some e) → (padded N ens)[i]? = some (some e) := by
    intro i e h
    have hi : i < ens.length := by have := (List.getElem?_eq_some_iff.mp h).1; simpa using this
    unfold padded
    rw [List.getElem?_append_left (by simpa using hi)]
    exact h
  refine ⟨by simp [L2.start, padded, hl], fun i d e => ?_, fun i l e => ?_, fun i a h => ?_, E.inj, E.out, E.apart, fun _ z => (nomatch z)⟩
  · obtain ⟨v, h1, h2⟩ := E.imm i d (lk e)
    exact ⟨v, lr h1, h2⟩
  · obtain ⟨a, xs, h1, h2, h3, h4⟩ := E.cel i l (lk e)
    exact ⟨a, xs, h1, lr h2, h3, h4⟩
  · obtain ⟨l, e⟩ := E.only i a h
    exact ⟨l, lb e⟩
/-- what a def leaves to its caller -/
theorem Eok.leave (E : Eok K Mo C none H (vs.map some) (ens.map some)) (E' : Eok K Mo C' r H' σ' ρ') (S : Stp ens.length C H C' r H') {outs : List (Option (List D))} (ho : outsOf ens ρ' = some outs) :
    Eok K Mo C r H' (vs.map some) ((ens.zip outs).map fun p => some (match p.2 with | some l => En.cel l | none => p.1)) ∧ Mov (MM Mo C' r) H' (MM Mo C r) H' ∧ Stp ens.length C H C r H' := by
  obtain ⟨o1, o2⟩ := outsOf_is ho
  have hl : vs.length = ens.length := by have := E.len; simpa using this
  have get : ∀ {i : Nat} {e : En}, (ens.map some)[i]? = some (some e) → ens[i]? = some e := by
    intro i e h
    rw [List.getElem?_map] at h
    cases z : ens[i]? with
    | none => rw [z] at h; cases h
    | some x => rw [z] at h; cases h; rfl
  -- a list that was given keeps its place
  have same : ∀ {i : Nat} {a : Addr}, C i = some a → C' i = some a ∧ ∃ l xs, ens[i]? = some (.cel l) ∧ ∃ l', ρ'[i]? = some (some (.cel l')) ∧ outs[i]? = some (some l') ∧ H' a = some (.lst xs) ∧ DsOk K (MM Mo C' r) H' l' xs := by
    intro i a h
    obtain ⟨l, e⟩ := E.only i a h
    obtain ⟨l', z1, z2⟩ := o2 i l (get e)
    obtain ⟨b, xs, h1, _, h3, h4⟩ := E'.cel i l' z1
    have hi : i < ens.length := (List.getElem?_eq_some_iff.mp (get e)).1
    have := S.par i b hi h1
    rw [h] at this
    cases this
    exact ⟨h1, l, xs, get e, l', z1, z2, h3, h4⟩
  have M : Mov (MM Mo C' r) H' (MM Mo C r) H' := by
    refine mov_iff fun a => ?_
    rintro (q | ⟨i, q⟩ | q)
    · exact .inl q
    · exact .inr (.inl ⟨i, (same q).1⟩)
    · exact .inr (.inr q)
  have S2 : Stp ens.length C H C r H' := ⟨S.keep, fun i a h => .inl ⟨i, h⟩, S.res, fun _ _ _ h => h⟩
  have at_ : ∀ {i : Nat} {x : Option En}, ((ens.zip outs).map fun p => some (match p.2 with | some l => En.cel l | none => p.1))[i]? = some x → ∃ e o, ens[i]? = some e ∧ outs[i]? = some o ∧ x = some (match o with | some l => En.cel l | none => e) := by
    intro i x h
    rw [List.getElem?_map] at h
    obtain ⟨p, q1, q2⟩ := Option.map_eq_some_iff.mp h
    obtain ⟨z1, z2⟩ := List.getElem?_zip_eq_some.mp q1
    exact ⟨p.1, p.2, z1, z2, q2.symm⟩
  refine ⟨⟨by simp [o1, hl], fun i d e => ?_, fun i l e => ?_, fun i a h => ?_, E.inj, E'.out, E.apart, fun a h => ?_⟩, M, S2⟩
  · obtain ⟨en, o, q1, q2, q3⟩ := at_ e
    cases o with
    | some l => cases q3
    | none =>
      cases q3
      obtain ⟨v, h1, h2⟩ := E.imm i d (by rw [List.getElem?_map, q1]; rfl)
      exact ⟨v, h1, DOk.mov M _ _ (DOk.mov (S.mov E.out) _ _ h2)⟩
  · obtain ⟨en, o, q1, q2, q3⟩ := at_ e
    cases o with
    | none =>
      simp only at q3
      cases q3
      obtain ⟨l', z1, z2⟩ := o2 i l q1
      rw [q2] at z2
      cases z2
    | some l1 =>
      cases q3
      cases en with
      | imm d => rw [outsOf_imm ho i d q1] at q2; cases q2
      | cel l0 =>
        obtain ⟨a, xs, h1, h2, h3, h4⟩ := E.cel i l0 (by rw [List.getElem?_map, q1]; rfl)
        obtain ⟨_, l2, xs2, _, l3, _, w2, w3, w4⟩ := same h1
        rw [q2] at w2
        cases w2
        exact ⟨a, xs2, h1, h2, w3, DsOk.mov M _ _ w4⟩
  · obtain ⟨_, l2, xs2, w0, l3, _, w2, w3, w4⟩ := same h
    exact ⟨l3, by rw [List.getElem?_map, (List.getElem?_zip_eq_some (z := (En.cel l2, some l3))).mpr ⟨w0, w2⟩]; rfl⟩
  · obtain ⟨n1, n2⟩ := E'.rz a h
    exact ⟨fun i hi => n1 i (same hi).1, n2⟩
end
theorem stmts_ok : ∀ n, IhS n
  | 0 => fun Γ X c s => PS.of fun De σ H ⟨_, _, _, _, _, _, hF, _⟩ => (nomatch hF)
  | n + 1 => stmt_ok (stmts_ok n)

/-- what is known of the module -/
structure TabOk (K : Frg) (mg : Str → Option Value) (T : List (Str × Rec)) (G : Str → Option D) (B : Str → Bool) : Prop where
  fns : ∀ x r, T.lookup x = some r → ∃ (f : Addr) (fd : FuncData) (qual : Str), Fun K x qual r.st f fd ∧ FnScope r.N r.ps (defScope r.st) ∧ mg x = some (.ref f) ∧
    ∀ n ks, (n, ks) ∈ r.shapes → ∀ (s : Shared) (us ws : List Value), K.In s.heap → us.length = n → ws.length = ks.length → (mixA r.ps ks us ws).length = r.ps.length → BindsTo s fd ⟨us, ks.zip ws⟩ (r.ps.zip (mixA r.ps ks us ws))
  glo : ∀ x d, G x = some d → ∃ u v, mg x = some u ∧ RelV v u ∧ ∀ M H, DOk K M H d v
  blt : ∀ x, B x = true → mg x = none
section
variable {P : Program} {w : World} {K : Frg} {mg : Str → Option Value} {base : Heap} {T : List (Str × Rec)} {G : Str → Option D} {B : Str → Bool}
theorem body_ok {Phi : Str → Option Fn} {r : Rec} {x qual : Str} {f : Addr} {fd : FuncData} {k : Nat} (hk : 1 ≤ k) (t : TabOk K mg T G B) (F : Fun K x qual r.st f fd) (S : FnScope r.N r.ps (defScope r.st))
    (hPhi : ∀ x F, Phi x = some F → ∃ (f : Addr) (fd : FuncData), GOk P w K mg base k f fd F.ps (spF K F.ps F.run) ∧ mg x = some (.ref f) ∧ PySem.W.keepIn K (.ref f) = true ∧
      ∀ n ks, (n, ks) ∈ F.shapes → ∀ (s : Shared) (us ws : List Value), K.In s.heap → us.length = n → ws.length = ks.length → (mixA F.ps ks us ws).length = F.ps.length → BindsTo s fd ⟨us, ks.zip ws⟩ (F.ps.zip (mixA F.ps ks us ws))) :
    GOk P w K mg base (k + 1) f fd r.ps (spF K r.ps (runBody (gamOf G B Phi r) (defBody r.st))) := by
  obtain ⟨oc, od, kV, doc, pm, an, cdv, ct, osl, rfl, lk, hcd⟩ := F.ex
  refine ⟨fun vs H Q E h => h.1, fun A outer s H args us vs Q hr hg e0 hb rv hsp => ?_⟩
  have vl := hsp.1
  have inK : K.In s.heap := e0.mod.kin.keeps fun b o e => (e0.bs b o e).1
  have noLim : s.heap.NoLimit := e0.mod.nolimit.keeps fun b o e => (e0.bs b o e).1
  have kinds : ∀ y ∈ r.ps.zip us, (defScope r.st).names.lookup y.1 = some .local ∨ ((defScope r.st).names.lookup y.1 = some .cell ∧ ((cellsFrom (s.heap.objs.size + 1) (defScope r.st).names []).lookup y.1).isSome = true) := by
    rintro ⟨nm, v⟩ hy
    rcases S.par nm (List.of_mem_zip hy).1 with q | q
    · exact Or.inl q
    · exact Or.inr ⟨q, PySem.W.cellsFrom_some _ _ _ (Or.inl q)⟩
  refine codeAny_call_function hr.depth (inK _ _ lk) rfl S.co S.gen rfl (PySem.W.codeRec_of inK hcd) (hb _ _ _ _ ?_)
  refine wpAny_newFunctionEnv_cells S.kind kinds fun env he s1 made => ?_
  subst he
  refine ⟨noLim.keeps made.toInCall.keep, codeAny_func ?_⟩
  let X : Cx := (cxOf CX0 P w K mg base r.N qual (defScope r.st) f cdv A outer s H E0).nox
  have room : Room k X.A := hr.deeper _
  have cx : CxS (gamOf G B Phi r) X := by
    refine { nN := rfl, nd := S.nd, sc := rfl, calm := rfl, xe := rfl, room := room.mono hk, guard := hg, phi := fun x F hF => ?_, glo := t.glo, blt := t.blt, fn := rfl }
    obtain ⟨f', fd', g, m, kp, bs⟩ := hPhi x F hF
    exact ⟨f', fd', k, g, room, m, kp, bs⟩
  have body : PSs X (defBody r.st) _ := blockW_ok (stmts_ok fuel (gamOf G B Phi r) X cx) (defBody r.st)
  have I := inv_start (CX := CX0) (qual := qual) (f := f) (cd := cdv) (E := E0) S hr.hd e0 vl rv made
  obtain ⟨_, Mo, C, ens, e, outs, E, hrun, hend⟩ := hsp
  have el : ens.length = r.ps.length := by have := E.len; simp at this; omega
  unfold runBody at hrun
  obtain ⟨p, h1, h2⟩ := Option.bind_eq_some_iff.mp hrun
  have fin : ∀ {e' : En} {ρ' : Rho}, (outsOf ens ρ').bind (fun q => some (e', q)) = some (e, outs) → ∀ C' r' σ' H' v, Eok K Mo C' r' H' σ' ρ' → Stp r.ps.length C H C' r' H' → EnOk K Mo C' r' H' v e' → Q v H' := by
    intro e' ρ' hh C' r' σ' H' v E' S' o'
    obtain ⟨q, y1, y2⟩ := Option.bind_eq_some_iff.mp hh
    cases y2
    rw [← el] at S'
    obtain ⟨E2, M2, S2⟩ := E.leave E' S' y1
    rw [el] at S2
    refine hend r' v H' E2 ?_ S2
    cases e with
    | imm d => exact ⟨o'.1, DOk.mov M2 _ _ o'.2⟩
    | cel l =>
      obtain ⟨a, xs, z1, z2, z3, z4⟩ := o'
      exact ⟨a, xs, z1, z2, z3, DsOk.mov M2 _ _ z4⟩
  have go := body.nox.run [] s1 (L2.start r.N vs) H { nx := fun _ H' => Q .non H', rt := Q } I ?_
  · refine wpAny_mono go (fun fl s' hs => ?_) fun e s' hs => hs
    have leave : ∀ {σ' : St} {H' : Hp} {v : V} {u : Value}, Inv (cxOf CX0 P w K mg base r.N qual (defScope r.st) f cdv A outer s H E0) [] σ' H' s' → RelV v u → Q v H' → CE outer P w H s Q u s' :=
      fun {σ' H' v u} J ru q => ⟨v, H', J.os, J.bare, J.base, J.hok, ru, q⟩
    cases fl with
    | next =>
      obtain ⟨σ', H', J, q⟩ := hs
      exact leave (v := V.non) (u := Value.none) J rfl q
    | ret u =>
      obtain ⟨v, σ', H', J, ru, q⟩ := hs
      exact leave J ru q
    | brk => obtain ⟨_, _, _, q⟩ := hs; exact q.elim
    | cont => obtain ⟨_, _, _, q⟩ := hs; exact q.elim
  · refine ⟨Mo, C, _, p.1, p.2, E.pad, h1, fun C' r' σ' H' E' S' R' => ?_⟩
    cases hp : p.1 with
    | nx =>
      rw [hp] at h2 R'
      cases R'
      exact fin h2 C' none σ' H' .non E' S' ⟨rfl, dNon.mpr rfl⟩
    | ret e' =>
      rw [hp] at h2
      exact fun v o' => fin h2 C' r' σ' H' v E' S' o'
    | brk => rw [hp] at h2; cases h2
    | cnt => rw [hp] at h2; cases h2
theorem callF_ok (t : TabOk K mg T G B) : ∀ k x F, callF T G B k x = some F → ∃ (f : Addr) (fd : FuncData), GOk P w K mg base (k + 1) f fd F.ps (spF K F.ps F.run) ∧ mg x = some (.ref f) ∧ PySem.W.keepIn K (.ref f) = true ∧
      ∀ n ks, (n, ks) ∈ F.shapes → ∀ (s : Shared) (us ws : List Value), K.In s.heap → us.length = n → ws.length = ks.length → (mixA F.ps ks us ws).length = F.ps.length → BindsTo s fd ⟨us, ks.zip ws⟩ (F.ps.zip (mixA F.ps ks us ws))
  | 0, x, F, h => by cases h
  | k + 1, x, F, h => by
    unfold callF at h
    obtain ⟨r, h1, h2⟩ := Option.bind_eq_some_iff.mp h
    cases h2
    obtain ⟨f, fd, qual, Fu, S, m, b⟩ := t.fns x r h1
    exact ⟨f, fd, body_ok (by omega) t Fu S (callF_ok t k), m, Fu.kp, b⟩
end
end Mx
set_option maxHeartbeats 400000
namespace Mx
open PySem L2

/-! ## The law's own call -/
theorem script_ok {K : Frg} {H : Hp} {a : Addr} {ns : List Int} (h : SqL K H a (ns.map V.int)) : DOk K (MM (fun _ => False) (fun _ => none) none) H (.lst (ns.map D.int)) (.ref a) := by
  have nm : ¬ MM (fun _ => False) (fun _ => none) none a := by
    rintro (m | ⟨i, m⟩ | m)
    · exact m
    · cases m
    · cases m
  have ds : ∀ {M : AS} (l : List Int), DsOk K M H (l.map D.int) (l.map V.int) := by
    intro M l
    induction l with
    | nil => exact DsOk.nil
    | cons i r ih => exact DsOk.cons (dInt.mpr rfl) ih
  refine dLst.mpr ⟨a, ns.map V.int, rfl, ?_, ds ns⟩
  rcases h with h | h
  · exact .inl ⟨h, nm⟩
  · exact .inr (.inr h)
theorem law_sp {K : Frg} {ps : List Str} {sem : List En → Option (En × List (Option (List D)))} {outs : List (Option (List D))} {H : Hp} {a : Addr} {ns : List Int} (hps : ps.length = 1)
    (h : sem [.imm (.lst (ns.map D.int))] = some (.imm (.bl true), outs)) (hS : SqL K H a (ns.map V.int)) : spF K ps sem [.ref a] H (fun v _ => v = .bl true) E0 := by
  refine ⟨hps.symm, fun _ => False, fun _ => none, _, _, _, ⟨rfl, fun i d e => ?_, fun i l e => ?_, fun i b e => (nomatch e), fun i j b e => (nomatch e), fun b e => e.elim, fun i b e => (nomatch e), fun b e => (nomatch e)⟩, h, fun r v H' _ o' _ => dBl.mp o'.2⟩
  · cases i with
    | zero => cases e; exact ⟨_, rfl, script_ok hS⟩
    | succ i => cases e
  · cases i with
    | zero => cases e
    | succ i => cases e
theorem law_run {P : Program} {w : World} {K : Frg} {mg mb : Str → Option Value} {k : Nat} {fa a : Addr} {fd : FuncData} {x : Str} {sp : Sp} {s₁ : Shared} {vs : List Value} {ns : List Int}
    (KX : K.In s₁.heap) (nsG : s₁.heap.Ns mainGlobals mg) (nsB : s₁.heap.Ns builtinsNs mb) (boot : ∀ x : Str, x ≠ "__name__" → mb x = bootBuiltins x) (lim : s₁.heap.NoLimit) (gens0 : s₁.gens = #[])
    (ha : s₁.heap.get? a = some { cls := .type "list", data := .seq vs.toArray }) (hi : PyProof.Rows.IntsAre vs ns) (hl : ns.length ≤ sizeLine) (room : Room k callerA)
    (F : ∀ base : Heap, K.In base → base.Ns mainGlobals mg → GOk P w K mg base k fa fd [x] sp) (binds : ∀ (s : Shared) (u : Value), BindsTo s fd ⟨[u], []⟩ [(x, u)])
    (hsp : ∀ H : Hp, SqL K H a (ns.map V.int) → sp [.ref a] H (fun v _ => v = .bl true) E0) :
    codeAny (model P w) callerA (.call (.ref fa) ⟨[.ref a], []⟩) (fun r s' => r = .ok (.ret (.bool true)) ∧ OldK s₁.heap s'.heap ∧ s'.os = s₁.os ∧ PyProof.Rows.AllBare s'.gens) s₁ := by
  have rv := vals_ints hi
  have lenV := hi.length
  -- over an abstract heap that tracks nothing, or the script alone
  have core : ∀ H : Hp, Only H → SqL K H a (ns.map V.int) → HOk P w H s₁.heap → (∀ b, H b ≠ none → b = a) → (H a ≠ none → K.lookup a = none) →
      codeAny (model P w) callerA (.call (.ref fa) ⟨[.ref a], []⟩) (fun r s' => r = .ok (.ret (.bool true)) ∧ OldK s₁.heap s'.heap ∧ s'.os = s₁.os ∧ PyProof.Rows.AllBare s'.gens) s₁ := by
    intro H only hS hok alone notK
    have dictFree : ∀ {b : Addr} {o : Obj} {es : Array DictEntry} {ep : Nat}, s₁.heap.get? b = some o → o.data = .dict es ep → H b = none := by
      intro b o es ep e d
      cases q : H b with
      | none => rfl
      | some u =>
        have e' := alone b (by rw [q]; simp)
        subst e'
        rw [ha] at e
        cases e
        cases (show Data.seq vs.toArray _ = Data.dict es ep from d)
    have hide : ∀ {b : Addr} {m : Str → Option Value}, s₁.heap.Ns b m → (hidT s₁.heap H).Ns b m := by
      rintro b m ⟨o, es, ep, e, d, z⟩
      exact ⟨o, es, ep, hidT_get e (dictFree e d), d, z⟩
    have KB : K.In (hidT s₁.heap H) := by
      intro b o e
      refine hidT_get (KX b o e) ?_
      cases q : H b with
      | none => rfl
      | some u =>
        have e' := alone b (by rw [q]; simp)
        subst e'
        rw [notK (by rw [q]; simp)] at e
        cases e
    obtain ⟨mc, l1, l2⟩ := lim
    have md : Mod K mg (hidT s₁.heap H) := ⟨KB, hide nsG, ⟨mb, hide nsB, boot⟩, ⟨mc, hide l1, l2⟩⟩
    have env0 : Env0 P w K mg (hidT s₁.heap H) callerA [] s₁ H :=
      { frames := rfl, mod := md, bs := fun b o e => of_hidT e, bsz := Nat.le_of_eq (hidT_size _ _), funs := trivial, frf := fun b hb => absurd (show b ∈ ([] : List Addr) from hb) (by simp), hok := hok, bare := .of_eq gens0 }
    have run := (F _ KB (hide nsG)).run callerA [] s₁ H ⟨[.ref a], []⟩ [.ref a] [.ref a] _ room rfl env0 (binds s₁ (.ref a)) (.cons rfl .nil) (hsp H hS)
    refine codeAny_mono run fun r s' h => ?_
    cases r with
    | error e => exact (show False from h).elim
    | ok fl =>
      cases fl with
      | ret u =>
        obtain ⟨v, H', os, bare, un, hok', ru, q⟩ := h
        have q' : v = .bl true := q
        subst q'
        cases ru
        refine ⟨rfl, OldK.of_keep fun b o e => ?_, os, bare⟩
        cases q : H b with
        | none => exact un.keep b o e q (fun z => absurd (show b ∈ ([] : List Addr) from z) (by simp)) (by simp)
        | some u =>
          rcases only b with z | ⟨ob, xs, z⟩
          · rw [q] at z; cases z
          · obtain ⟨e1, _⟩ := hok b _ z
            obtain ⟨e2, _⟩ := hok' b _ (un.frzs b ob _ z)
            rw [e] at e1
            cases e1
            exact e2
      | next => exact (show False from h).elim
      | brk => exact (show False from h).elim
      | cont => exact (show False from h).elim
  cases hk : K.lookup a with
  | some o =>
    have e := KX a o hk
    rw [ha] at e
    cases e
    exact core (fun _ => none) (fun _ => .inl rfl) (.inr ⟨_, vs.toArray, _, hk, rfl, rfl, rfl, by rw [List.size_toArray, lenV]; exact hl, by simpa using rv⟩) (fun b u z => (nomatch z)) (fun b z => absurd rfl z) fun z => absurd rfl z
  | none =>
    have at_ : ∀ b, (if b = a then some (HO.frz { cls := .type "list", data := .seq vs.toArray } (.lst (ns.map V.int))) else none) ≠ none → b = a := by
      intro b z
      by_cases hb : b = a
      · exact hb
      · rw [if_neg hb] at z; exact absurd rfl z
    refine core (fun b => if b = a then some (.frz { cls := .type "list", data := .seq vs.toArray } (.lst (ns.map V.int))) else none) (fun b => ?_) (.inl (.inr ⟨{ cls := .type "list", data := .seq vs.toArray }, if_pos rfl⟩)) (fun b u z => ?_) at_ fun _ => hk
    · by_cases hb : b = a
      · exact .inr ⟨_, _, if_pos hb⟩
      · exact .inl (if_neg hb)
    · have hb := at_ b (fun w => by have z2 := w.symm.trans z; cases z2)
      subst hb
      have z' := (if_pos rfl).symm.trans z
      cases z'
      exact ⟨ha, by rw [List.length_map]; exact hl, vs, _, rv, ha⟩
/-- the goal that k_head leaves -/
theorem walk {l : PySem.W.OpenLaw} {k : Nat} {q : Program} {loose : List Str} {XP : (Str → Option Value) → Heap → Prop} {YP : World → Heap → Prop} {d : DefRec} {K : Params → PySem.W.Frag} {x : Str}
    {sem : List En → Option (En × List (Option (List D)))} (hn : l.most = some 63) (hdf : d.params.defaults = []) (room : Room k callerA) (hY : ∀ (w : World) (h : Heap), YP w h → (K w.params).In h)
    (hsem : ∀ ns : List Int, ns.length ≤ 63 → ∃ outs, sem [.imm (.lst (ns.map D.int))] = some (.imm (.bl true), outs))
    (F : ∀ (w : World) (mg : Str → Option Value) (fa : Addr) (h : Heap), (K w.params).In h → h.Ns mainGlobals mg → mg d.name = some (.ref fa) →
      ∃ fd : FuncData, (∀ (s : Shared) (u : Value), BindsTo s fd ⟨[u], []⟩ [(x, u)]) ∧ ∀ base : Heap, (K w.params).In base → base.Ns mainGlobals mg → GOk l.prog w (K w.params) mg base k fa fd [x] (spF (K w.params) [x] sem)) :
    PySem.W.WalkO q loose XP YP l.row.toRowW d [] (fun f vs => PySem.call f vs) := by
  refine Att.attach_call hn hdf fun w s₀ s₁ mg mb fa o pm cd doc a vs ns G Y ho hd hcd hmg hobj hints hlen hg => ?_
  have KX := hY w _ Y
  obtain ⟨fd, hb, hF⟩ := F w mg fa _ KX G.T.g hmg
  obtain ⟨outs, ho⟩ := hsem ns hlen
  exact law_run KX G.T.g G.T.b G.T.builtins G.T.nolimit hg hobj hints (Nat.le_trans hlen (by decide)) room hF hb fun H hS => law_sp rfl ho hS

/-! ## Tables, fact by fact -/
def ShFact (fd : FuncData) (ps : List Str) : List (Nat × List Str) → Prop
  | [] => True
  | (n, ks) :: t => (∀ (s : Shared) (us ws : List Value), us.length = n → ws.length = ks.length → BindsTo s fd ⟨us, ks.zip ws⟩ (ps.zip (mixA ps ks us ws))) ∧ ShFact fd ps t
theorem ShFact.get {fd : FuncData} {ps : List Str} : ∀ {t : List (Nat × List Str)}, ShFact fd ps t → ∀ n ks, (n, ks) ∈ t → ∀ (s : Shared) (us ws : List Value), us.length = n → ws.length = ks.length → BindsTo s fd ⟨us, ks.zip ws⟩ (ps.zip (mixA ps ks us ws))
  | [], _, n, ks, h => by cases h
  | (n0, ks0) :: t, ⟨a, b⟩, n, ks, h => by
    rcases List.mem_cons.mp h with h | h
    · cases h; exact a
    · exact b.get n ks h
def FnFact (K : Frg) (mg : Str → Option Value) (x : Str) (r : Rec) : Prop := ∃ (f : Addr) (fd : FuncData) (qual : Str), Fun K x qual r.st f fd ∧ FnScope r.N r.ps (defScope r.st) ∧ mg x = some (.ref f) ∧ ShFact fd r.ps r.shapes
def AllFns (K : Frg) (mg : Str → Option Value) : List (Str × Rec) → Prop
  | [] => True
  | (x, r) :: t => FnFact K mg x r ∧ AllFns K mg t
theorem AllFns.get {K : Frg} {mg : Str → Option Value} : ∀ {T : List (Str × Rec)}, AllFns K mg T → ∀ {x r}, T.lookup x = some r → FnFact K mg x r
  | [], _, x, r, h => by cases h
  | (y, r0) :: t, ⟨a, b⟩, x, r, h => by
    rw [List.lookup_cons] at h
    split at h
    · rename_i e
      have e : x = y := by simpa using e
      subst e
      cases h
      exact a
    · exact b.get h
def AllNone (mg : Str → Option Value) : List Str → Prop
  | [] => True
  | x :: t => mg x = none ∧ AllNone mg t
theorem AllNone.get {mg : Str → Option Value} : ∀ {T : List Str}, AllNone mg T → ∀ {x}, T.contains x = true → mg x = none
  | [], _, x, h => by cases h
  | y :: t, ⟨a, b⟩, x, h => by
    rw [List.contains_cons, Bool.or_eq_true] at h
    rcases h with e | h
    · have e : x = y := by simpa using e
      rw [e]; exact a
    · exact b.get h
def GFact (K : Frg) (mg : Str → Option Value) (x : Str) (d : D) : Prop := ∃ u v, mg x = some u ∧ RelV v u ∧ ∀ M H, DOk K M H d v
def AllG (K : Frg) (mg : Str → Option Value) : List (Str × D) → Prop
  | [] => True
  | (x, d) :: t => GFact K mg x d ∧ AllG K mg t
theorem AllG.get {K : Frg} {mg : Str → Option Value} : ∀ {T : List (Str × D)}, AllG K mg T → ∀ {x d}, T.lookup x = some d → GFact K mg x d
  | [], _, x, r, h => by cases h
  | (y, r0) :: t, ⟨a, b⟩, x, r, h => by
    rw [List.lookup_cons] at h
    split at h
    · rename_i e
      have e : x = y := by simpa using e
      subst e
      cases h
      exact a
    · exact b.get h
theorem tabOk_of {K : Frg} {mg : Str → Option Value} {T : List (Str × Rec)} {g : List (Str × D)} {b : List Str} (h1 : AllFns K mg T) (h2 : AllG K mg g) (h3 : AllNone mg b) : TabOk K mg T (fun x => g.lookup x) (fun x => b.contains x) :=
  ⟨fun x r h => let ⟨f, fd, q, a1, a2, a3, a4⟩ := h1.get h; ⟨f, fd, q, a1, a2, a3, fun n ks hs s us ws _ hu hw _ => a4.get n ks hs s us ws hu hw⟩, fun x d h => h2.get h, fun x h => h3.get h⟩
end Mx
set_option maxHeartbeats 400000
namespace Mx
open PySem L2

/-! ## The text with its names resolved -/
inductive BI where
  | len | int | tuple | list | all | repr
  deriving DecidableEq
def BI.str : BI → Str
  | .len => "len"
  | .int => "int"
  | .tuple => "tuple"
  | .list => "list"
  | .all => "all"
  | .repr => "repr"
def biOf (x : Str) : Option BI := if x = "len" then some .len else if x = "int" then some .int else if x = "tuple" then some .tuple else if x = "list" then some .list else if x = "all" then some .all else if x = "repr" then some .repr else none
theorem biOf_str {x : Str} {b : BI} (h : biOf x = some b) : x = b.str := by
  unfold biOf at h
  split at h
  · cases h; assumption
  · split at h
    · cases h; assumption
    · split at h
      · cases h; assumption
      · split at h
        · cases h; assumption
        · split at h
          · cases h; assumption
          · split at h
            · cases h; assumption
            · cases h
inductive CE where
  | nm (i : Nat)
  | cst (d : D)
  | tup (es : List CE)
  | lst (es : List CE)
  | bin (op : Operator) (a b : CE)
  | neg (a : CE)
  | not (a : CE)
  | bop (op : BoolOp) (es : List CE)
  | ite (c a b : CE)
  | cmp (op : CmpOp) (a b : CE)
  | cmp2 (op op' : CmpOp) (a b c : CE)
  | tyEq (a : CE) (s : String)
  | isI (a : CE) (s : String)
  | ix (a i : CE)
  | sl (a : CE) (lo hi : Option CE)
  | fz (a : CE)
  | rev (a : CE)
  | own (f : Nat) (args : List CE)
  | ownK (f : Nat) (args kws : List CE) (perm : List Nat)
  | b1 (f : BI) (a : CE)
  | ss (a : CE)
  | max (a b : CE)
  | lc1 (i : Nat) (k : IK) (its test : List CE) (elt : CE)
  | lcT (is : List Nat) (k : IK) (its test : List CE) (elt : CE)
abbrev PhiN := Nat → List En → Option (En × List (Option (List D)))
def rdC (i : Nat) (ρ : Rho) : Option (En × Rho) := match ρ[i]? with
  | some (some (.imm d)) => some (.imm d, ρ)
  | some (some (.cel l)) => some (.imm (.lst l), ρ.set i (some (.imm (.lst l))))
  | _ => none
def lsC (evc : CE → Rho → Option (En × Rho)) : List CE → Rho → Option (List D × Rho)
  | [], ρ => some ([], ρ)
  | e :: es, ρ => (immF (evc e) ρ).bind fun p => (lsC evc es p.2).bind fun q => some (p.1 :: q.1, q.2)
def bopC (evb : CE → Rho → Option (Bool × Rho)) (op : BoolOp) : List CE → Rho → Option (Bool × Rho)
  | [], _ => none
  | a :: r, ρ => (evb a ρ).bind fun p => match r with
    | [] => some p
    | _ :: _ => match op, p.1 with
      | .And, true => bopC evb op r p.2
      | .And, false => some (false, p.2)
      | .Or, true => some (true, p.2)
      | .Or, false => bopC evb op r p.2
def brC (evc : CE → Rho → Option (En × Rho)) (e : CE) (ρ : Rho) : Option (D × Rho) := match e with
  | .nm i => match ρ[i]? with
    | some (some e) => some (e.toD, ρ)
    | _ => none
  | e => immF (evc e) ρ
def celC (e : CE) (ρ : Rho) : Option Nat := match e with
  | .nm i => match ρ[i]? with
    | some (some (.cel _)) => some i
    | _ => none
  | _ => none
def unfz : CE → CE
  | .fz a => a
  | e => e
def agC (evc : CE → Rho → Option (En × Rho)) : List CE → Rho → Option (List Ag × Rho)
  | [], ρ => some ([], ρ)
  | e :: es, ρ => match celC e ρ with
    | some i => (agC evc es ρ).bind fun q => some (.slot i :: q.1, q.2)
    | none => (immF (evc (unfz e)) ρ).bind fun p => (agC evc es p.2).bind fun q => some (.val p.1 :: q.1, q.2)
def oC (evc : CE → Rho → Option (En × Rho)) : Option CE → Rho → Option (Option Int × Rho)
  | none, ρ => some (none, ρ)
  | some e, ρ => (immF (evc e) ρ).bind fun p => match p.1 with
    | .int i => some (some i, p.2)
    | _ => none
def tsC (evb : CE → Rho → Option (Bool × Rho)) : List CE → Rho → Option (Bool × Rho)
  | [], ρ => some (true, ρ)
  | [c], ρ => evb c ρ
  | _, _ => none
def callC (Φ : PhiN) (f : Nat) (ags : List Ag) (ρ : Rho) : Option (En × Rho) :=
  (if nodupB (slotsOf ags) then ensOf ρ ags else none).bind fun ens => (Φ f ens).bind fun r => (putBack ρ ags r.2).bind fun ρ' => some (r.1, ρ')
def lcC (items : List D) (ρ : Rho) (i : Nat) (test : Rho → Option (Bool × Rho)) (elt : Rho → Option (En × Rho)) : Option (En × Rho) :=
  match ρ[i]? with
  | some (some (.cel _)) => none
  | none => none
  | some old => (lcTurns test elt i items (ρ.set i none)).bind fun q => if q.1.length ≤ line then some (.cel q.1, q.2.set i old) else none
def itC (evc : CE → Rho → Option (En × Rho)) (k : IK) (its : List CE) (ρ : Rho) : Option (List D × Rho) :=
  (lsC evc its ρ).bind fun q => (itK k q.1).bind fun items => some (items, q.2)
def lcCT (items : List D) (ρ : Rho) (is : List Nat) (test : Rho → Option (Bool × Rho)) (elt : Rho → Option (En × Rho)) : Option (En × Rho) :=
  if is.all (fun i => match ρ[i]? with | some none => true | _ => false) then
    (lcTurnsG (stTup is) is test elt items ρ).bind fun q => if q.1.length ≤ line then some (.cel q.1, q.2) else none
  else none
def evC (Φ : PhiN) : Nat → CE → Rho → Option (En × Rho)
  | 0, _, _ => none
  | n + 1, e, ρ => match e with
    | .nm i => rdC i ρ
    | .cst d => some (.imm d, ρ)
    | .tup es => (lsC (evC Φ n) es ρ).bind fun q => if q.1.length ≤ line then some (.imm (.tup q.1), q.2) else none
    | .lst es => (lsC (evC Φ n) es ρ).bind fun q => if q.1.length ≤ line then some (.cel q.1, q.2) else none
    | .bin op a b => (immF (evC Φ n a) ρ).bind fun p => (immF (evC Φ n b) p.2).bind fun q => (binD op p.1 q.1).bind fun e => some (e, q.2)
    | .neg a => (immF (evC Φ n a) ρ).bind fun p => match p.1 with
      | .int i => some (.imm (.int (-i)), p.2)
      | _ => none
    | .not a => (bF (evC Φ n a ρ)).bind fun p => some (.imm (.bl (!p.1)), p.2)
    | .bop op es => (bopC (fun a ρ => bF (evC Φ n a ρ)) op es ρ).bind fun p => some (.imm (.bl p.1), p.2)
    | .ite c a b => (bF (evC Φ n c ρ)).bind fun p => if p.1 then evC Φ n a p.2 else evC Φ n b p.2
    | .cmp op a b => (immF (evC Φ n a) ρ).bind fun p => (brC (evC Φ n) b p.2).bind fun q => (cmpD op p.1 q.1).bind fun c => some (.imm (.bl c), q.2)
    | .cmp2 op op' a b c => (immF (evC Φ n a) ρ).bind fun p => (immF (evC Φ n b) p.2).bind fun q => (cmpD op p.1 q.1).bind fun k =>
        if k then (immF (evC Φ n c) q.2).bind fun r => (cmpD op' q.1 r.1).bind fun k' => some (.imm (.bl k'), r.2) else some (.imm (.bl false), q.2)
    | .tyEq a s => (immF (evC Φ n a) ρ).bind fun p => some (.imm (.bl (tyNameD p.1 == s)), p.2)
    | .isI a s => (immF (evC Φ n a) ρ).bind fun p => (kitB (tyNameD p.1) s).bind fun c => some (.imm (.bl c), p.2)
    | .ix a i => match celC a ρ with
      | some k => (immF (evC Φ n i) ρ).bind fun q => match q.1, q.2[k]? with
        | .int j, some (some (.cel l)) => (ixD (.lst l) j).bind fun d => some (.imm d, q.2)
        | _, _ => none
      | none => (immF (evC Φ n a) ρ).bind fun p => (immF (evC Φ n i) p.2).bind fun q => match q.1 with
        | .int j => (ixD p.1 j).bind fun d => some (.imm d, q.2)
        | _ => none
    | .sl a lo hi => (immF (evC Φ n a) ρ).bind fun p => (oC (evC Φ n) lo p.2).bind fun q => (oC (evC Φ n) hi q.2).bind fun r => (slD p.1 q.1 r.1).bind fun e => some (e, r.2)
    | .fz _ => none
    | .rev a => (immF (evC Φ n a) ρ).bind fun p => (revD p.1).bind fun e => some (e, p.2)
    | .own f args => (agC (evC Φ n) args ρ).bind fun p => callC Φ f p.1 p.2
    | .ownK f args kws perm => (agC (evC Φ n) args ρ).bind fun p => (lsC (evC Φ n) kws p.2).bind fun q => callC Φ f (perm.filterMap fun j => (p.1 ++ q.1.map .val)[j]?) q.2
    | .b1 f a => (brC (evC Φ n) a ρ).bind fun p => (bcall1 f.str p.1).bind fun e => some (e, p.2)
    | .ss a => (brC (evC Φ n) a ρ).bind fun p => (srtD p.1).bind fun e => some (e, p.2)
    | .max a b => (lsC (evC Φ n) [a, b] ρ).bind fun q => match q.1 with
      | [.int i, .int j] => some (.imm (.int (if j > i then j else i)), q.2)
      | _ => none
    | .lc1 i k its ts elt => (itC (evC Φ n) k its ρ).bind fun p => lcC p.1 p.2 i (tsC (fun c ρ => bF (evC Φ n c ρ)) ts) (evC Φ n elt)
    | .lcT is k its ts elt => (itC (evC Φ n) k its ρ).bind fun p => lcCT p.1 p.2 is (tsC (fun c ρ => bF (evC Φ n c ρ)) ts) (evC Φ n elt)

/-! ## Resolving the names -/
structure Sta where
  N : List Str
  sc : Scope
  T : List (Str × Rec)
  G : List (Str × D)
  B : List Str
def fnIx (T : List (Str × Rec)) (x : Str) : Option Nat := ixOf (T.map (·.1)) x
def setC (S : Sta) : Expr → Option Expr
  | .Call (.Name g _) [x] [] _ => if g = "set" ∧ glB S.sc g = true ∧ S.B.contains g = true ∧ isStar x = false then some x else none
  | _ => none
def coL (c : Expr → Option CE) : List Expr → Option (List CE)
  | [] => some []
  | e :: es => if isStar e then none else (c e).bind fun a => (coL c es).bind fun r => some (a :: r)
/-- arguments: those that stay what they are at their def are looked at -/
def coA (c : Expr → Option CE) : List Bool → List Expr → Option (List CE)
  | _, [] => some []
  | ms, e :: es => if isStar e then none else (c e).bind fun a => (coA c ms.tail es).bind fun r => some ((if ms.headD true then a else .fz a) :: r)
def coLT (c : Expr → Option CE) : List Expr → Option (List CE)
  | [] => some []
  | e :: es => (c e).bind fun a => (coLT c es).bind fun r => some (a :: r)
def coO (c : Expr → Option CE) : Option Expr → Option (Option CE)
  | none => some none
  | some e => (c e).bind fun a => some (some a)
def isGl (S : Sta) (x : Str) : Bool := okN x && glB S.sc x
/-- a name that is a built-in's -/
def isB (S : Sta) (x : Str) : Bool := isGl S x && (fnIx S.T x).isNone && S.B.contains x
def isNm : CE → Bool
  | .nm _ => true
  | _ => false
def isFz : CE → Bool
  | .fz _ => true
  | _ => false
def isName : Expr → Bool
  | .Name _ _ => true
  | _ => false
def co : Nat → Sta → Bool → Expr → Option CE
  | 0, _, _, _ => none
  | n + 1, S, t, e => (match e with
    | .Name x _ => if okN x then if visB S.sc x then (ixOf S.N x).bind fun i => some (.nm i) else if glB S.sc x then (S.G.lookup x).bind fun d => some (.cst d) else none else none
    | .Constant c _ _ => (cstD c).bind fun d => some (.cst d)
    | .Tuple es _ _ => (coL (co n S false) es).bind fun r => some (.tup r)
    | .List es _ => (coL (co n S false) es).bind fun r => some (.lst r)
    | .BinOp a op b _ => (co n S false a).bind fun a' => (co n S false b).bind fun b' => some (.bin op a' b')
    | .UnaryOp .USub a _ => (co n S false a).bind fun a' => some (.neg a')
    | .UnaryOp .Not a _ => (co n S t a).bind fun a' => some (.not a')
    | .BoolOp op vs _ => (coLT (co n S t) vs).bind fun r => some (.bop op r)
    | .IfExp c a b _ => if t then none else (co n S true c).bind fun c' => (co n S false a).bind fun a' => (co n S false b).bind fun b' => some (.ite c' a' b')
    | .Compare a [op] [b] _ => if isSet b then none else match a, b with
      | .Call (.Name f fp) [x] [] cp, .Name T tp => if f = "type" ∧ glB S.sc f = true ∧ S.B.contains f = true then
          if okN T = true ∧ glB S.sc T = true ∧ S.B.contains T = true ∧ op = .Eq ∧ isStar x = false then (co n S false x).bind fun x' => (tyB.lookup T).bind fun s => some (.tyEq x' s) else none
        else (co n S false (.Call (.Name f fp) [x] [] cp)).bind fun a' => (co n S false (.Name T tp)).bind fun b' => some (.cmp op a' b')
      | a, b => (co n S false a).bind fun a' => (co n S false b).bind fun b' => some (.cmp op a' b')
    | .Compare a [op, op'] [b, c] _ => if isSet b || isSet c then none else (co n S false a).bind fun a' => (co n S false b).bind fun b' => (co n S false c).bind fun c' => some (.cmp2 op op' a' b' c')
    | .Subscript a i _ => match i with
      | .Slice lo hi none _ => (co n S false a).bind fun a' => (coO (co n S false) lo).bind fun l' => (coO (co n S false) hi).bind fun h' => some (.sl a' l' h')
      | .Slice none none (some st) _ => if isM1 st then (co n S false a).bind fun a' => some (.rev a') else none
      | i => if isSlice i then none else (co n S false a).bind fun a' => (co n S false i).bind fun i' => some (.ix a' i')
    | .Call (.Name f _) args kws _ => if okN f && glB S.sc f then match S.T.lookup f with
      | some r => (fnIx S.T f).bind fun fi => (coA (co n S false) r.cm args).bind fun as => match kws with
        | [] => if as.length = r.ps.length ∧ r.shapes.contains (as.length, []) = true then some (.own fi as) else none
        | kws => (kwNames kws).bind fun ks => (coL (co n S false) (kwExprs kws)).bind fun ws =>
            if (mixA r.ps ks (List.range as.length) (List.range' as.length ws.length)).length = r.ps.length ∧ r.shapes.contains (as.length, ks) = true ∧ ks.length = ws.length then
              some (.ownK fi as ws (mixA r.ps ks (List.range as.length) (List.range' as.length ws.length))) else none
      | none => if S.B.contains f then match kws, args with
        | [], [a] => if isStar a then none else if f = "sorted" then (setC S a).bind fun x => (co n S false x).bind fun x' => some (.ss x') else (biOf f).bind fun b => (co n S false a).bind fun a' => some (.b1 b a')
        | [], [a, b] => if f = "isinstance" then match b with
            | .Name T _ => if okN T ∧ glB S.sc T = true ∧ S.B.contains T = true ∧ isStar a = false then (co n S false a).bind fun a' => (tyB.lookup T).bind fun s => some (.isI a' s) else none
            | _ => none
          else if f = "max" then (coL (co n S false) [a, b]).bind fun r => match r with
            | [a', b'] => some (.max a' b')
            | _ => none
          else none
        | _, _ => none
        else none
      else none
    | .ListComp elt [⟨.Name y _, iter, ifs, k⟩] scope _ => if k = 0 ∧ isSet iter = false then (ixOf S.N y).bind fun i =>
        if blkC S.N S.sc scope [(y, i)] = true ∧ locB (relS scope S.sc) y = true ∧ (scope.names.lookup y = some .cell ∨ (relS scope S.sc).names.lookup y = some .local) then
          (coLT (co n { S with sc := relS scope S.sc } true) ifs).bind fun ts => if ts.length ≤ 1 then (co n { S with sc := relS scope S.sc } false elt).bind fun el =>
            (ikOf false S.sc (fun x => S.B.contains x) iter).bind fun q => (coL (co n S false) q.2).bind fun its => some (.lc1 i q.1 its ts el)
          else none
        else none
      else none
    | .ListComp elt [⟨.Tuple tgs _ _, iter, ifs, k⟩] scope _ => if k = 0 ∧ isSet iter = false then (tsIx S.N tgs).bind fun own =>
        if blkC S.N S.sc scope own = true ∧ own.all (fun y => locB (relS scope S.sc) y.1 && (decide (scope.names.lookup y.1 = some .cell) || decide ((relS scope S.sc).names.lookup y.1 = some .local))) = true then
          (coLT (co n { S with sc := relS scope S.sc } true) ifs).bind fun ts => if ts.length ≤ 1 then (co n { S with sc := relS scope S.sc } false elt).bind fun el =>
            (ikOf true S.sc (fun x => S.B.contains x) iter).bind fun q => (coL (co n S false) q.2).bind fun its => some (.lcT (own.map (·.2)) q.1 its ts el)
          else none
        else none
      else none
    | _ => none : Option CE).bind fun c => if (isNm c && !isName e) || isFz c then none else some c
end Mx
set_option maxHeartbeats 400000
namespace Mx
open PySem L2

structure Rel (S : Sta) (Γ : Gam) (Φ : PhiN) : Prop where
  N : Γ.N = S.N
  sc : Γ.sc = S.sc
  G : ∀ x, Γ.G x = S.G.lookup x
  B : ∀ x, Γ.B x = S.B.contains x
  phi : ∀ x r fi, S.T.lookup x = some r → fnIx S.T x = some fi → Γ.Phi x = some ⟨r.ps, Φ fi, r.shapes, r.cm⟩ ∨ (Γ.Phi x = none ∧ ∀ ens, Φ fi ens = none)
  non : ∀ x, S.T.lookup x = none → Γ.Phi x = none
  apart : ∀ x r, S.T.lookup x = some r → S.B.contains x = false
section
variable {S : Sta} {Γ : Gam} {Φ : PhiN} {n : Nat}
theorem bind_none {α β : Type} (o : Option α) : (o.bind fun _ => (none : Option β)) = none := by cases o <;> rfl
theorem nm_of {t : Bool} {x : Str} {p : Pos} {c : CE} (R : Rel S Γ Φ) (h : co (n + 1) S t (.Name x p) = some c) : okN x = true ∧ ((visB Γ.sc x = true ∧ ∃ i, ixOf Γ.N x = some i ∧ c = .nm i) ∨ (visB Γ.sc x = false ∧ glB Γ.sc x = true ∧ ∃ d, Γ.G x = some d ∧ c = .cst d)) := by
  have h : (if okN x then if visB S.sc x then (ixOf S.N x).bind fun i => some (CE.nm i) else if glB S.sc x then (S.G.lookup x).bind fun d => some (CE.cst d) else none else none).bind (fun c => if (isNm c && !isName (.Name x p)) || isFz c then none else some c) = some c := h
  obtain ⟨c', hq, hc⟩ := Option.bind_eq_some_iff.mp h
  clear h
  have hc : c' = c := by
    split at hc
    · cases hc
    · cases hc; rfl
  subst hc
  have h := hq
  clear hq
  rw [← R.N, ← R.sc, ← R.G] at h
  split at h
  · rename_i ok
    refine ⟨ok, ?_⟩
    split at h
    · rename_i v
      obtain ⟨i, h1, h2⟩ := Option.bind_eq_some_iff.mp h
      cases h2
      exact .inl ⟨v, i, h1, rfl⟩
    · rename_i v
      split at h
      · rename_i g
        obtain ⟨d, h1, h2⟩ := Option.bind_eq_some_iff.mp h
        cases h2
        exact .inr ⟨by simpa using v, g, d, h1, rfl⟩
      · cases h
  · cases h
theorem nm_not {t : Bool} {e : Expr} {c : CE} (h : co n S t e = some c) (hn : isName e = false) : isNm c = false := by
  cases n with
  | zero => cases h
  | succ n =>
    unfold co at h
    obtain ⟨c', _, h2⟩ := Option.bind_eq_some_iff.mp h
    split at h2
    · cases h2
    · rename_i z
      cases h2
      cases hm : isNm c with
      | false => rfl
      | true => rw [hm, hn] at z; simp at z
theorem celC_not {c : CE} {ρ : Rho} (h : isNm c = false) : celC c ρ = none := by cases c <;> first | rfl | cases h
theorem brC_not {evc : CE → Rho → Option (En × Rho)} {c : CE} {ρ : Rho} (h : isNm c = false) : brC evc c ρ = immF (evc c) ρ := by cases c <;> first | rfl | cases h
theorem celOf_not {e : Expr} {ρ : Rho} (h : isName e = false) : celOf Γ e ρ = none := by cases e <;> first | rfl | cases h
theorem brw_not {ev' : Expr → Rho → Option (En × Rho)} {e : Expr} {ρ : Rho} (h : isName e = false) : brw Γ ev' e ρ = immF (ev' e) ρ := by cases e <;> first | rfl | cases h
theorem cel_eq (R : Rel S Γ Φ) {t : Bool} {e : Expr} {c : CE} (h : co n S t e = some c) (ρ : Rho) : celOf Γ e ρ = celC c ρ := by
  cases hn : isName e with
  | false => rw [celOf_not hn, celC_not (nm_not h hn)]
  | true =>
    cases n with
    | zero => cases h
    | succ n =>
      cases e with
      | Name x p =>
        obtain ⟨ok, ⟨v, i, hi, rfl⟩ | ⟨v, g, d, hd, rfl⟩⟩ := nm_of R h
        · show (if okN x && visB Γ.sc x then _ else _) = _
          rw [ok, v, hi]
          rfl
        · show (if okN x && visB Γ.sc x then _ else _) = _
          rw [ok, v]
          rfl
      | _ => cases hn
theorem ev_name (R : Rel S Γ Φ) {t : Bool} {x : Str} {p : Pos} {c : CE} (h : co (n + 1) S t (.Name x p) = some c) (ρ : Rho) : evName Γ x ρ = evC Φ (n + 1) c ρ := by
  obtain ⟨ok, ⟨v, i, hi, rfl⟩ | ⟨v, g, d, hd, rfl⟩⟩ := nm_of R h
  · unfold evName
    rw [ok, v, hi]
    rfl
  · unfold evName
    rw [ok, v, g, hd]
    rfl
theorem br_eq (R : Rel S Γ Φ) {e : Expr} {c : CE} (h : co n S false e = some c) (ih : ev n Γ false e = evC Φ n c) (ρ : Rho) : brw Γ (ev n Γ false) e ρ = brC (evC Φ n) c ρ := by
  cases hn : isName e with
  | false => rw [brw_not hn, brC_not (nm_not h hn), ih]
  | true =>
    cases n with
    | zero => cases h
    | succ n =>
      cases e with
      | Name x p =>
        obtain ⟨ok, ⟨v, i, hi, rfl⟩ | ⟨v, g, d, hd, rfl⟩⟩ := nm_of R h
        · show (match brName Γ x ρ with | some d => some (d, ρ) | none => immF (ev (n + 1) Γ false (.Name x p)) ρ) = _
          unfold brName
          rw [ok, v, hi, ih]
          simp only [if_true]
          show _ = (match ρ[i]? with | some (some e) => some (e.toD, ρ) | _ => none)
          cases hr : ρ[i]? with
          | none =>
            simp only
            unfold immF
            rw [show evC Φ (n + 1) (.nm i) ρ = rdC i ρ from rfl]
            unfold rdC
            rw [hr]
          | some o => cases o with
            | none =>
              simp only
              unfold immF
              rw [show evC Φ (n + 1) (.nm i) ρ = rdC i ρ from rfl]
              unfold rdC
              rw [hr]
            | some e => rfl
        · show (match brName Γ x ρ with | some d => some (d, ρ) | none => immF (ev (n + 1) Γ false (.Name x p)) ρ) = _
          unfold brName
          rw [ok, v, ih]
          rfl
      | _ => cases hn
theorem coL_ls {f : Expr → Option CE} {ev' : Expr → Rho → Option (En × Rho)} {evc : CE → Rho → Option (En × Rho)} (hf : ∀ e c, f e = some c → ev' e = evc c) : ∀ {es : List Expr} {cs : List CE}, coL f es = some cs → evLw ev' es = lsC evc cs
  | [], cs, h => by cases h; funext ρ; rfl
  | e :: es, cs, h => by
    unfold coL at h
    split at h
    · cases h
    · rename_i ns
      obtain ⟨a, h1, h2⟩ := Option.bind_eq_some_iff.mp h
      obtain ⟨r, h3, h4⟩ := Option.bind_eq_some_iff.mp h2
      cases h4
      funext ρ
      unfold evLw lsC
      rw [if_neg ns, hf e a h1, coL_ls hf h3]
theorem unfz_id (R : Rel S Γ Φ) {t : Bool} {e : Expr} {a : CE} {n : Nat} (h : co n S t e = some a) : unfz a = a := by
  have z : isFz a = false := by
    cases n with
    | zero => cases h
    | succ n =>
      unfold co at h
      obtain ⟨c', _, h2⟩ := Option.bind_eq_some_iff.mp h
      split at h2
      · cases h2
      · rename_i z
        cases h2
        cases hm : isFz a with
        | false => rfl
        | true => rw [hm] at z; simp at z
  cases a <;> first | rfl | cases z
theorem coA_ag (R : Rel S Γ Φ) (hf : ∀ e c, co n S false e = some c → ev n Γ false e = evC Φ n c) : ∀ {es : List Expr} {ms : List Bool} {cs : List CE}, coA (co n S false) ms es = some cs → evAw Γ (ev n Γ false) ms es = agC (evC Φ n) cs
  | [], _, cs, h => by cases h; funext ρ; rfl
  | e :: es, ms, cs, h => by
    unfold coA at h
    split at h
    · cases h
    · rename_i ns
      obtain ⟨a, h1, h2⟩ := Option.bind_eq_some_iff.mp h
      obtain ⟨r, h3, h4⟩ := Option.bind_eq_some_iff.mp h2
      cases h4
      funext ρ
      unfold evAw agC
      rw [if_neg ns, hf e a h1, coA_ag R hf h3]
      cases hm : ms.headD true with
      | true =>
        rw [if_pos rfl, if_pos rfl, cel_eq R h1, unfz_id R h1]
        all_goals (cases celC a ρ <;> rfl)
      | false =>
        rw [if_neg (by simp), if_neg (by simp)]
        all_goals rfl
theorem coLT_bop {f : Expr → Option CE} {ev' : Expr → Rho → Option (Bool × Rho)} {evc : CE → Rho → Option (Bool × Rho)} (hf : ∀ e c, f e = some c → ev' e = evc c) {op : BoolOp} : ∀ {es : List Expr} {cs : List CE}, coLT f es = some cs → evBw ev' op es = bopC evc op cs ∧ es.length = cs.length
  | [], cs, h => by cases h; exact ⟨by funext ρ; rfl, rfl⟩
  | e :: es, cs, h => by
    unfold coLT at h
    obtain ⟨a, h1, h2⟩ := Option.bind_eq_some_iff.mp h
    obtain ⟨r, h3, h4⟩ := Option.bind_eq_some_iff.mp h2
    cases h4
    obtain ⟨b1, b2⟩ := coLT_bop hf (op := op) h3
    refine ⟨?_, by simp [b2]⟩
    funext ρ
    unfold evBw bopC
    rw [hf e a h1, b1]
    cases es with
    | nil => cases r with
      | nil => rfl
      | cons _ _ => cases b2
    | cons _ _ => cases r with
      | nil => cases b2
      | cons _ _ => rfl
theorem coLT_ts {f : Expr → Option CE} {ev' : Expr → Rho → Option (Bool × Rho)} {evc : CE → Rho → Option (Bool × Rho)} (hf : ∀ e c, f e = some c → ev' e = evc c) {es : List Expr} {cs : List CE} (h : coLT f es = some cs) : lcTest ev' es = tsC evc cs := by
  cases es with
  | nil => cases h; funext ρ; rfl
  | cons e es =>
    unfold coLT at h
    obtain ⟨a, h1, h2⟩ := Option.bind_eq_some_iff.mp h
    obtain ⟨r, h3, h4⟩ := Option.bind_eq_some_iff.mp h2
    cases h4
    cases es with
    | nil =>
      cases h3
      funext ρ
      show ev' e ρ = evc a ρ
      rw [hf e a h1]
    | cons e2 es =>
      unfold coLT at h3
      obtain ⟨a2, y1, y2⟩ := Option.bind_eq_some_iff.mp h3
      obtain ⟨r2, y3, y4⟩ := Option.bind_eq_some_iff.mp y2
      cases y4
      funext ρ
      rfl
theorem coO_o {f : Expr → Option CE} {ev' : Expr → Rho → Option (En × Rho)} {evc : CE → Rho → Option (En × Rho)} (hf : ∀ e c, f e = some c → ev' e = evc c) {o : Option Expr} {c : Option CE} (h : coO f o = some c) : evO ev' o = oC evc c := by
  cases o with
  | none => cases h; funext ρ; rfl
  | some e =>
    obtain ⟨a, h1, h2⟩ := Option.bind_eq_some_iff.mp (show (f e).bind (fun a => some (some a)) = some c from h)
    cases h2
    funext ρ
    show ((immF (ev' e) ρ).bind fun p => match p.1 with | .int i => some (some i, p.2) | _ => none) = ((immF (evc a) ρ).bind fun p => match p.1 with | .int i => some (some i, p.2) | _ => none)
    rw [hf e a h1]
theorem agC_len {evc : CE → Rho → Option (En × Rho)} : ∀ {cs : List CE} {ρ : Rho} {p}, agC evc cs ρ = some p → p.1.length = cs.length
  | [], ρ, p, h => by cases h; rfl
  | c :: cs, ρ, p, h => by
    unfold agC at h
    split at h
    · obtain ⟨q, h1, h2⟩ := Option.bind_eq_some_iff.mp h
      cases h2
      simp [agC_len h1]
    · obtain ⟨q, h1, h2⟩ := Option.bind_eq_some_iff.mp h
      obtain ⟨q', h3, h4⟩ := Option.bind_eq_some_iff.mp h2
      cases h4
      simp [agC_len h3]
theorem lsC_len {evc : CE → Rho → Option (En × Rho)} : ∀ {cs : List CE} {ρ : Rho} {p}, lsC evc cs ρ = some p → p.1.length = cs.length
  | [], ρ, p, h => by cases h; rfl
  | c :: cs, ρ, p, h => by
    unfold lsC at h
    obtain ⟨q, h1, h2⟩ := Option.bind_eq_some_iff.mp h
    obtain ⟨q', h3, h4⟩ := Option.bind_eq_some_iff.mp h2
    cases h4
    simp [lsC_len h3]
theorem mixA_full {α : Type} : ∀ {ps : List Str} {us : List α}, us.length = ps.length → mixA ps [] us [] = us
  | [], [], _ => rfl
  | p :: ps, u :: us, h => by
    unfold mixA
    rw [mixA_full (by simpa using h)]
theorem pick_map {α β : Type} (f : α → β) (p : Str) : ∀ (ks : List Str) (ws : List α), pick ks (ws.map f) p = (pick ks ws p).map f
  | [], ws => by cases ws <;> rfl
  | k :: ks, [] => rfl
  | k :: ks, w :: ws => by
    show (if k = p then [f w] else pick ks (ws.map f) p) = _
    rw [pick_map f p ks ws]
    show _ = (if k = p then [w] else pick ks ws p).map f
    by_cases h : k = p
    · rw [if_pos h, if_pos h]; rfl
    · rw [if_neg h, if_neg h]
theorem mixA_map {α β : Type} (f : α → β) (ks : List Str) (ws : List α) : ∀ (ps : List Str) (us : List α), mixA ps ks (us.map f) (ws.map f) = (mixA ps ks us ws).map f
  | [], us => by cases us <;> rfl
  | p :: ps, [] => by
    show pick ks (ws.map f) p ++ mixA ps ks (([] : List α).map f) (ws.map f) = (pick ks ws p ++ mixA ps ks [] ws).map f
    rw [pick_map, mixA_map f ks ws ps [], List.map_append]
  | p :: ps, u :: us => by
    show f u :: mixA ps ks (us.map f) (ws.map f) = _
    rw [mixA_map f ks ws ps us]
    rfl
theorem range_get {α : Type} (us : List α) : us.map some = (List.range us.length).map fun j => us[j]? := by
  apply List.ext_getElem?
  intro i
  rw [List.getElem?_map, List.getElem?_map]
  by_cases h : i < us.length
  · rw [List.getElem?_range h]
    simp [h]
  · rw [List.getElem?_eq_none (by omega), List.getElem?_eq_none (by simp; omega)]
    rfl
theorem mix_perm {α : Type} (ps ks : List Str) (us ws : List α) : mixA ps ks us ws = (mixA ps ks (List.range us.length) (List.range' us.length ws.length)).filterMap fun j => (us ++ ws)[j]? := by
  have h1 : us.map some = (List.range us.length).map fun j => (us ++ ws)[j]? := by
    rw [range_get]
    apply List.map_congr_left
    intro j hj
    rw [List.getElem?_append_left (List.mem_range.mp hj)]
  have h2 : ws.map some = (List.range' us.length ws.length).map fun j => (us ++ ws)[j]? := by
    apply List.ext_getElem?
    intro i
    rw [List.getElem?_map, List.getElem?_map]
    by_cases h : i < ws.length
    · rw [List.getElem?_range' h, List.getElem?_eq_getElem h]
      simp only [Option.map_some, Nat.one_mul]
      rw [List.getElem?_append_right (Nat.le_add_right _ _), Nat.add_sub_cancel_left, List.getElem?_eq_getElem h]
    · rw [List.getElem?_eq_none (by omega), List.getElem?_eq_none (by simp; omega)]
      rfl
  have h3 : (mixA ps ks us ws).map some = (mixA ps ks (List.range us.length) (List.range' us.length ws.length)).map fun j => (us ++ ws)[j]? := by
    rw [← mixA_map, ← mixA_map, h1, h2]
  have h4 : ∀ {l : List α} {m : List (Option α)}, l.map some = m → l = m.filterMap id := by
    intro l m h
    subst h
    induction l with
    | nil => rfl
    | cons a l ih => simp
  rw [h4 h3, List.filterMap_map]
  rfl
end
end Mx
set_option maxHeartbeats 1000000
namespace Mx
open PySem L2

section
variable {S : Sta} {Γ : Gam} {Φ : PhiN} {n : Nat}
theorem Rel.blk (R : Rel S Γ Φ) {scope : Scope} : Rel { S with sc := relS scope S.sc } { Γ with sc := relS scope Γ.sc } Φ :=
  ⟨R.N, by rw [R.sc], R.G, R.B, R.phi, R.non, R.apart⟩
theorem call_none {fi : Nat} (h : ∀ ens, Φ fi ens = none) (ags : List Ag) (ρ : Rho) : callC Φ fi ags ρ = none := by
  unfold callC
  cases (if nodupB (slotsOf ags) then ensOf ρ ags else none) with
  | none => rfl
  | some ens =>
    show (Φ fi ens).bind _ = none
    rw [h ens]
    rfl
theorem it_eq (R : Rel S Γ Φ) (ih : ∀ e c, co n S false e = some c → ev n Γ false e = evC Φ n c) {tt : Bool} {iter : Expr} {ρ : Rho} {q : IK × List Expr} {its : List CE} (h : ikOf tt S.sc (fun x => S.B.contains x) iter = some q) (h' : coL (co n S false) q.2 = some its) :
    evIt tt Γ (ev n Γ false) iter ρ = itC (evC Φ n) q.1 its ρ := by
  unfold evIt itC
  rw [R.sc, show Γ.B = fun x => S.B.contains x from funext fun x => R.B x, h]
  show (evLw (ev n Γ false) q.2 ρ).bind _ = _
  rw [coL_ls ih h']
theorem mixA_len {α β : Type} (ps ks : List Str) {us ws : List α} {us' ws' : List β} (h : us.length = us'.length) (h' : ws.length = ws'.length) : (mixA ps ks us ws).length = (mixA ps ks us' ws').length := by
  have e1 : us.map (fun _ => ()) = us'.map (fun _ => ()) := by
    rw [List.map_const', List.map_const', h]
  have e2 : ws.map (fun _ => ()) = ws'.map (fun _ => ()) := by
    rw [List.map_const', List.map_const', h']
  have a := congrArg List.length (mixA_map (fun (_ : α) => ()) ks ws ps us)
  have b := congrArg List.length (mixA_map (fun (_ : β) => ()) ks ws' ps us')
  rw [List.length_map] at a b
  rw [← a, ← b, e1, e2]
theorem set_eq (R : Rel S Γ Φ) {a : Expr} : setC S a = setArg Γ a := by
  have e : Γ.B = fun x => S.B.contains x := funext R.B
  unfold setC setArg
  rw [R.sc, e]
  try rfl
theorem co_ok : ∀ (n : Nat) {S : Sta} {Γ : Gam}, Rel S Γ Φ → ∀ (t : Bool) (e : Expr) (c : CE), co n S t e = some c → ev n Γ t e = evC Φ n c
  | 0, S, Γ, R, t, e, c, h => by cases h
  | n + 1, S, Γ, R, t, e, c, h0 => by
    have ih : ∀ (t : Bool) (e : Expr) (c : CE), co n S t e = some c → ev n Γ t e = evC Φ n c := co_ok n R
    have ihf := ih false
    have ihb : ∀ (t : Bool) (e : Expr) (c : CE), co n S t e = some c → (fun ρ => bF (ev n Γ t e ρ)) = fun ρ => bF (evC Φ n c ρ) := fun t e c h => by rw [ih t e c h]
    funext ρ
    have h1 := h0
    unfold co at h1
    obtain ⟨c', h, hc⟩ := Option.bind_eq_some_iff.mp h1
    clear h1
    have hc : c' = c := by
      split at hc
      · cases hc
      · cases hc; rfl
    subst hc
    have h2 := h
    clear h
    split at h2
    · rename_i x p
      exact ev_name R h0 ρ
    · obtain ⟨d, h3, h4⟩ := Option.bind_eq_some_iff.mp h2
      cases h4
      show (cstD _).bind _ = _
      rw [h3]
      rfl
    · obtain ⟨r, h3, h4⟩ := Option.bind_eq_some_iff.mp h2
      cases h4
      show (evLw (ev n Γ false) _ ρ).bind _ = (lsC (evC Φ n) r ρ).bind _
      rw [coL_ls ihf h3]
    · obtain ⟨r, h3, h4⟩ := Option.bind_eq_some_iff.mp h2
      cases h4
      show (evLw (ev n Γ false) _ ρ).bind _ = (lsC (evC Φ n) r ρ).bind _
      rw [coL_ls ihf h3]
    · rename_i a op b p
      obtain ⟨a', h3, h4⟩ := Option.bind_eq_some_iff.mp h2
      obtain ⟨b', h5, h6⟩ := Option.bind_eq_some_iff.mp h4
      cases h6
      show (immF (ev n Γ false a) ρ).bind (fun p => (immF (ev n Γ false b) p.2).bind _) = (immF (evC Φ n a') ρ).bind (fun p => (immF (evC Φ n b') p.2).bind _)
      rw [ihf a a' h3, ihf b b' h5]
    · rename_i a p
      obtain ⟨a', h3, h4⟩ := Option.bind_eq_some_iff.mp h2
      cases h4
      show (immF (ev n Γ false a) ρ).bind _ = (immF (evC Φ n a') ρ).bind _
      rw [ihf a a' h3]
      all_goals
        cases immF (evC Φ n a') ρ with
        | none => rfl
        | some q => obtain ⟨d, ρ1⟩ := q; cases d <;> rfl
    · rename_i a p
      obtain ⟨a', h3, h4⟩ := Option.bind_eq_some_iff.mp h2
      cases h4
      show (bF (ev n Γ t a ρ)).bind _ = (bF (evC Φ n a' ρ)).bind _
      rw [ih t a a' h3]
    · rename_i op vs p
      obtain ⟨r, h3, h4⟩ := Option.bind_eq_some_iff.mp h2
      cases h4
      show (evBw (fun a ρ => bF (ev n Γ t a ρ)) op vs ρ).bind _ = (bopC (fun a ρ => bF (evC Φ n a ρ)) op r ρ).bind _
      rw [(coLT_bop (ihb t) h3).1]
    · rename_i a b d p
      split at h2
      · cases h2
      · rename_i ht
        obtain ⟨c1, h3, h4⟩ := Option.bind_eq_some_iff.mp h2
        obtain ⟨c2, h5, h6⟩ := Option.bind_eq_some_iff.mp h4
        obtain ⟨c3, h7, h8⟩ := Option.bind_eq_some_iff.mp h6
        cases h8
        have ht : t = false := by simpa using ht
        subst ht
        show (bF (ev n Γ true _ ρ)).bind (fun p => if p.1 then ev n Γ false _ p.2 else ev n Γ false _ p.2) = (bF (evC Φ n c1 ρ)).bind (fun p => if p.1 then evC Φ n c2 p.2 else evC Φ n c3 p.2)
        rw [ih true _ c1 h3, ihf _ c2 h5, ihf _ c3 h7]
    · rename_i a op b p
      have gen : isSet b = false → ∀ a' b', co n S false a = some a' → co n S false b = some b' → ((immF (ev n Γ false a) ρ).bind fun p => (brw Γ (ev n Γ false) b p.2).bind fun q => (cmpD op p.1 q.1).bind fun c => some (En.imm (.bl c), q.2)) = evC Φ (n + 1) (.cmp op a' b') ρ := by
        intro _ a' b' h3 h5
        rw [ihf a a' h3, show brw Γ (ev n Γ false) b = brC (evC Φ n) b' from funext (br_eq R h5 (ihf b b' h5))]
        rfl
      split at h2
      · cases h2
      · rename_i hs
        have hs : isSet b = false := by simpa using hs
        split at h2
        · rename_i f fp x cp T tp _
          rw [ev, if_neg (by simp [hs])]
          rw [← R.sc, ← R.B] at h2
          split at h2
          · rename_i hf
            rw [← R.B] at h2
            split at h2
            · rename_i hT
              obtain ⟨c1, h3, h4⟩ := Option.bind_eq_some_iff.mp h2
              obtain ⟨s, h5, h6⟩ := Option.bind_eq_some_iff.mp h4
              cases h6
              show (if f = "type" ∧ glB Γ.sc f = true ∧ Γ.B f = true then
                if okN T ∧ glB Γ.sc T = true ∧ Γ.B T = true ∧ op = .Eq ∧ isStar x = false then (immF (ev n Γ false x) ρ).bind fun p => match tyB.lookup T with
                  | some s => some (En.imm (.bl (tyNameD p.1 == s)), p.2)
                  | none => none
                else none
              else _) = _
              rw [if_pos hf, if_pos hT, ihf x c1 h3, h5]
              rfl
            · cases h2
          · rename_i hf
            obtain ⟨c1, h3, h4⟩ := Option.bind_eq_some_iff.mp h2
            obtain ⟨c2, h5, h6⟩ := Option.bind_eq_some_iff.mp h4
            cases h6
            refine Eq.trans ?_ (gen hs c1 c2 h3 h5)
            exact if_neg hf
        · rename_i hne
          obtain ⟨c1, h3, h4⟩ := Option.bind_eq_some_iff.mp h2
          obtain ⟨c2, h5, h6⟩ := Option.bind_eq_some_iff.mp h4
          cases h6
          refine Eq.trans ?_ (gen hs c1 c2 h3 h5)
          rw [ev, if_neg (by simp [hs])]
          intro f fp x cp T tp ea eb
          exact hne f fp x cp T tp ea eb
    · rename_i a op op' b c0 p
      split at h2
      · cases h2
      · rename_i hs
        obtain ⟨c1, h3, h4⟩ := Option.bind_eq_some_iff.mp h2
        obtain ⟨c2, h5, h6⟩ := Option.bind_eq_some_iff.mp h4
        obtain ⟨c3, h7, h8⟩ := Option.bind_eq_some_iff.mp h6
        cases h8
        show (if isSet b || isSet c0 then none else (immF (ev n Γ false a) ρ).bind fun p => (immF (ev n Γ false b) p.2).bind fun q => (cmpD op p.1 q.1).bind fun k =>
          if k then (immF (ev n Γ false c0) q.2).bind fun r => (cmpD op' q.1 r.1).bind fun k' => some (En.imm (.bl k'), r.2) else some (En.imm (.bl false), q.2)) = _
        rw [if_neg hs, ihf a c1 h3, ihf b c2 h5, ihf c0 c3 h7]
        rfl
    · rename_i a i p
      split at h2
      · rename_i lo hi p2
        obtain ⟨c1, h3, h4⟩ := Option.bind_eq_some_iff.mp h2
        obtain ⟨c2, h5, h6⟩ := Option.bind_eq_some_iff.mp h4
        obtain ⟨c3, h7, h8⟩ := Option.bind_eq_some_iff.mp h6
        cases h8
        show (immF (ev n Γ false a) ρ).bind (fun p => (evO (ev n Γ false) lo p.2).bind fun q => (evO (ev n Γ false) hi q.2).bind _) = (immF (evC Φ n c1) ρ).bind (fun p => (oC (evC Φ n) c2 p.2).bind fun q => (oC (evC Φ n) c3 q.2).bind _)
        rw [ihf a c1 h3, coO_o ihf h5, coO_o ihf h7]
      · rename_i st p2
        split at h2
        · rename_i hm
          obtain ⟨c1, h3, h4⟩ := Option.bind_eq_some_iff.mp h2
          cases h4
          show (if isM1 st then (immF (ev n Γ false a) ρ).bind fun p => (revD p.1).bind fun e => some (e, p.2) else none) = (immF (evC Φ n c1) ρ).bind _
          rw [if_pos hm, ihf a c1 h3]
        · cases h2
      · rename_i hns hns2
        split at h2
        · cases h2
        · rename_i ns
          obtain ⟨c1, h3, h4⟩ := Option.bind_eq_some_iff.mp h2
          obtain ⟨c2, h5, h6⟩ := Option.bind_eq_some_iff.mp h4
          cases h6
          have hev : ev (n + 1) Γ t (.Subscript a i p) ρ = (match celOf Γ a ρ with
            | some k => (immF (ev n Γ false i) ρ).bind fun q => match q.1, q.2[k]? with
              | .int j, some (some (.cel l)) => (ixD (.lst l) j).bind fun d => some (En.imm d, q.2)
              | _, _ => none
            | none => (immF (ev n Γ false a) ρ).bind fun p => (immF (ev n Γ false i) p.2).bind fun q => match q.1 with
              | .int j => (ixD p.1 j).bind fun d => some (En.imm d, q.2)
              | _ => none) := by
            rw [ev]
            · rw [if_neg ns]
              all_goals rfl
            · exact hns
            · exact hns2
          rw [hev, cel_eq R h3, ihf a c1 h3, ihf i c2 h5]
          show _ = (match celC c1 ρ with
            | some k => (immF (evC Φ n c2) ρ).bind fun q => match q.1, q.2[k]? with
              | .int j, some (some (.cel l)) => (ixD (.lst l) j).bind fun d => some (En.imm d, q.2)
              | _, _ => none
            | none => (immF (evC Φ n c1) ρ).bind fun p => (immF (evC Φ n c2) p.2).bind fun q => match q.1 with
              | .int j => (ixD p.1 j).bind fun d => some (En.imm d, q.2)
              | _ => none)
          rfl
    · rename_i f fp args kws p
      split at h2
      · rename_i hg
        have hg' : (okN f && glB Γ.sc f) = true := by rw [R.sc]; exact hg
        split at h2
        · rename_i r hT
          obtain ⟨fi, h3, h4⟩ := Option.bind_eq_some_iff.mp h2
          obtain ⟨as, h5, h6⟩ := Option.bind_eq_some_iff.mp h4
          have hag := coA_ag R ihf h5
          have nB : Γ.B f = false := by rw [R.B]; exact R.apart f r hT
          rcases R.phi f r fi hT h3 with hp | ⟨hp, hN⟩
          · -- the def is there
            have hev : ev (n + 1) Γ t (.Call (.Name f fp) args kws p) ρ = ((evAw Γ (ev n Γ false) r.cm args ρ).bind fun p => (kwNames kws).bind fun ks => (evLw (ev n Γ false) (kwExprs kws) p.2).bind fun q =>
                (if nodupB (slotsOf (mixA r.ps ks p.1 (q.1.map .val))) && r.shapes.contains (p.1.length, ks) then ensOf q.2 (mixA r.ps ks p.1 (q.1.map .val)) else none).bind fun ens =>
                (if ens.length = r.ps.length then Φ fi ens else none).bind fun z => (putBack q.2 (mixA r.ps ks p.1 (q.1.map .val)) z.2).bind fun ρ' => some (z.1, ρ')) := by
              show (if (okN f && glB Γ.sc f) = true then _ else _) = _
              rw [if_pos hg', hp]
            rw [hev, hag]
            split at h6
            · split at h6
              · rename_i hl
                cases h6
                show _ = (agC (evC Φ n) as ρ).bind fun p => callC Φ fi p.1 p.2
                cases hA : agC (evC Φ n) as ρ with
                | none => rfl
                | some pa =>
                  obtain ⟨ags, ρ1⟩ := pa
                  have al : ags.length = as.length := agC_len hA
                  show ((if nodupB (slotsOf (mixA r.ps [] ags [])) && r.shapes.contains (ags.length, []) then ensOf ρ1 (mixA r.ps [] ags []) else none).bind fun ens =>
                    (if ens.length = r.ps.length then Φ fi ens else none).bind fun z => (putBack ρ1 (mixA r.ps [] ags []) z.2).bind fun ρ' => some (z.1, ρ')) = _
                  rw [mixA_full (by omega), al, hl.2, Bool.and_true]
                  show _ = callC Φ fi ags ρ1
                  unfold callC
                  cases hE : (if nodupB (slotsOf ags) = true then ensOf ρ1 ags else none) with
                  | none => rfl
                  | some ens =>
                    show (if ens.length = r.ps.length then Φ fi ens else none).bind _ = _
                    have : ens.length = r.ps.length := by
                      split at hE
                      · rw [(ensOf_get hE).1, al]; exact hl.1
                      · cases hE
                    rw [if_pos this]
                    rfl
              · cases h6
            · obtain ⟨ks, h7, h8⟩ := Option.bind_eq_some_iff.mp h6
              obtain ⟨ws, h9, h10⟩ := Option.bind_eq_some_iff.mp h8
              split at h10
              · rename_i hl
                cases h10
                rw [h7]
                show _ = (agC (evC Φ n) as ρ).bind fun p => (lsC (evC Φ n) ws p.2).bind fun q => callC Φ fi _ q.2
                cases hA : agC (evC Φ n) as ρ with
                | none => rfl
                | some pa =>
                  obtain ⟨ags, ρ1⟩ := pa
                  have al : ags.length = as.length := agC_len hA
                  show ((evLw (ev n Γ false) (kwExprs kws) ρ1).bind _) = (lsC (evC Φ n) ws ρ1).bind _
                  rw [coL_ls ihf h9]
                  cases hW : lsC (evC Φ n) ws ρ1 with
                  | none => rfl
                  | some pw =>
                    obtain ⟨zs, ρ2⟩ := pw
                    have zl : zs.length = ws.length := lsC_len hW
                    have hm := mix_perm r.ps ks ags (zs.map Ag.val)
                    rw [List.length_map, al, zl] at hm
                    show ((if nodupB (slotsOf (mixA r.ps ks ags (zs.map .val))) && r.shapes.contains (ags.length, ks) then ensOf ρ2 (mixA r.ps ks ags (zs.map .val)) else none).bind fun ens =>
                      (if ens.length = r.ps.length then Φ fi ens else none).bind fun z => (putBack ρ2 (mixA r.ps ks ags (zs.map .val)) z.2).bind fun ρ' => some (z.1, ρ')) = callC Φ fi _ ρ2
                    rw [al, hl.2.1, Bool.and_true, ← hm]
                    unfold callC
                    cases hE : (if nodupB (slotsOf (mixA r.ps ks ags (zs.map Ag.val))) = true then ensOf ρ2 (mixA r.ps ks ags (zs.map Ag.val)) else none) with
                    | none => rfl
                    | some ens =>
                      show (if ens.length = r.ps.length then Φ fi ens else none).bind _ = _
                      have : ens.length = r.ps.length := by
                        split at hE
                        · rw [(ensOf_get hE).1]
                          have q3 := mixA_len r.ps ks (us := ags) (us' := List.range as.length) (ws := zs.map Ag.val) (ws' := List.range' as.length ws.length) (by simp [al]) (by simp [zl])
                          rw [q3]
                          exact hl.1
                        · cases hE
                      rw [if_pos this]
                      rfl
              · cases h10
          · -- no def at this depth
            have hev : ev (n + 1) Γ t (.Call (.Name f fp) args kws p) ρ = none := by
              show (if (okN f && glB Γ.sc f) = true then _ else _) = _
              rw [if_pos hg', hp]
              show (if Γ.B f = true then _ else none) = none
              rw [nB]
              rfl
            rw [hev]
            split at h6
            · split at h6
              · cases h6
                show none = (agC (evC Φ n) as ρ).bind fun p => callC Φ fi p.1 p.2
                cases agC (evC Φ n) as ρ with
                | none => rfl
                | some pa => exact (call_none hN _ _).symm
              · cases h6
            · obtain ⟨ks, h7, h8⟩ := Option.bind_eq_some_iff.mp h6
              obtain ⟨ws, h9, h10⟩ := Option.bind_eq_some_iff.mp h8
              split at h10
              · cases h10
                show none = (agC (evC Φ n) as ρ).bind fun p => (lsC (evC Φ n) ws p.2).bind fun q => callC Φ fi _ q.2
                cases agC (evC Φ n) as ρ with
                | none => rfl
                | some pa =>
                  show none = (lsC (evC Φ n) ws pa.2).bind fun q => callC Φ fi _ q.2
                  cases lsC (evC Φ n) ws pa.2 with
                  | none => rfl
                  | some pw => exact (call_none hN _ _).symm
              · cases h10
        · rename_i hT
          have hp := R.non f hT
          rw [← R.B] at h2
          split at h2
          · rename_i hB
            split at h2
            · rename_i a
              split at h2
              · cases h2
              · rename_i ns
                split at h2
                · rename_i hf
                  subst hf
                  obtain ⟨x, h3, h4⟩ := Option.bind_eq_some_iff.mp h2
                  obtain ⟨x', h5, h6⟩ := Option.bind_eq_some_iff.mp h4
                  cases h6
                  have hs : setArg Γ a = some x := by
                    rw [← set_eq R]
                    exact h3
                  have hev : ev (n + 1) Γ t (.Call (.Name "sorted" fp) [a] [] p) ρ = (brw Γ (ev n Γ false) x ρ).bind fun p => (srtD p.1).bind fun e => some (e, p.2) := by
                    rw [ev]
                    rw [if_pos hg', hp]
                    show (if Γ.B "sorted" = true then (if isStar a = true then none else if ("sorted" : Str) = "sorted" then _ else _) else none) = _
                    rw [if_pos hB, if_neg ns, if_pos rfl, hs]
                    rfl
                  rw [hev, br_eq R h5 (ihf x x' h5)]
                  rfl
                rename_i nf
                obtain ⟨b, h3, h4⟩ := Option.bind_eq_some_iff.mp h2
                obtain ⟨c1, h5, h6⟩ := Option.bind_eq_some_iff.mp h4
                cases h6
                have hev : ev (n + 1) Γ t (.Call (.Name f fp) [a] [] p) ρ = (brw Γ (ev n Γ false) a ρ).bind fun p => (bcall1 f p.1).bind fun e => some (e, p.2) := by
                  rw [ev]
                  rw [if_pos hg', hp]
                  show (if Γ.B f = true then (if isStar a = true then none else if f = "sorted" then _ else _) else none) = _
                  rw [if_pos hB, if_neg ns, if_neg nf]
                rw [hev, br_eq R h5 (ihf a c1 h5), biOf_str h3]
                rfl
            · rename_i a b
              split at h2
              · rename_i hf
                subst hf
                split at h2
                · rename_i T tp
                  rw [← R.sc, ← R.B] at h2
                  split at h2
                  · rename_i hT2
                    obtain ⟨c1, h3, h4⟩ := Option.bind_eq_some_iff.mp h2
                    obtain ⟨s, h5, h6⟩ := Option.bind_eq_some_iff.mp h4
                    cases h6
                    have hev : ev (n + 1) Γ t (.Call (.Name "isinstance" fp) [a, .Name T tp] [] p) ρ = (immF (ev n Γ false a) ρ).bind fun p => (tyB.lookup T).bind fun s => (kitB (tyNameD p.1) s).bind fun c => some (.imm (.bl c), p.2) := by
                      show (if (okN _ && glB Γ.sc _) = true then _ else _) = _
                      rw [if_pos hg', hp]
                      show (if Γ.B "isinstance" = true then (if ("isinstance" : Str) = "isinstance" then (if okN T ∧ glB Γ.sc T = true ∧ Γ.B T = true ∧ isStar a = false then _ else none) else _) else none) = _
                      rw [if_pos hB, if_pos rfl, if_pos hT2]
                    rw [hev, ihf a c1 h3, h5]
                    rfl
                  · cases h2
                · cases h2
              · rename_i hf
                split at h2
                · rename_i hf2
                  subst hf2
                  obtain ⟨r, h3, h4⟩ := Option.bind_eq_some_iff.mp h2
                  split at h4
                  · rename_i a' b'
                    cases h4
                    have hev : ev (n + 1) Γ t (.Call (.Name "max" fp) [a, b] [] p) ρ = (evLw (ev n Γ false) [a, b] ρ).bind fun q => match q.1 with
                        | [x, y] => (bcall2 "max" x y).bind fun e => some (e, q.2)
                        | _ => none := by
                      show (if (okN _ && glB Γ.sc _) = true then _ else _) = _
                      rw [if_pos hg', hp]
                      show (if Γ.B "max" = true then (if ("max" : Str) = "isinstance" then _ else _) else none) = _
                      rw [if_pos hB, if_neg hf]
                      all_goals rfl
                    rw [hev, coL_ls ihf h3]
                    show _ = (lsC (evC Φ n) [a', b'] ρ).bind fun q => match q.1 with
                        | [.int i, .int j] => some (En.imm (.int (if j > i then j else i)), q.2)
                        | _ => none
                    cases hL : lsC (evC Φ n) [a', b'] ρ with
                    | none => rfl
                    | some q =>
                      obtain ⟨ds, ρ1⟩ := q
                      have := lsC_len hL
                      match ds, this with
                      | [x, y], _ =>
                        show (bcall2 "max" x y).bind _ = _
                        unfold bcall2
                        rw [if_pos rfl]
                        cases x <;> cases y <;> rfl
                  · cases h4
                · cases h2
            · cases h2
          · cases h2
      · cases h2
    · rename_i elt y yp iter ifs kk scope p
      split at h2
      · rename_i hk
        obtain ⟨i, h3, h4⟩ := Option.bind_eq_some_iff.mp h2
        split at h4
        · rename_i hb
          obtain ⟨ts, h5, h6⟩ := Option.bind_eq_some_iff.mp h4
          split at h6
          · obtain ⟨el, h7, h8⟩ := Option.bind_eq_some_iff.mp h6
            have Rb := R.blk (scope := scope)
            have ihB : ∀ (t : Bool) (e : Expr) (c : CE), co n { S with sc := relS scope S.sc } t e = some c → ev n { Γ with sc := relS scope Γ.sc } t e = evC Φ n c := co_ok n Rb
            have e1 : lcTest (fun c ρ => bF (ev n { Γ with sc := relS scope Γ.sc } true c ρ)) ifs = tsC (fun c ρ => bF (evC Φ n c ρ)) ts := coLT_ts (fun e c h => by rw [ihB true e c h]) h5
            have e2 := ihB false elt el h7
            obtain ⟨q, h9, h10⟩ := Option.bind_eq_some_iff.mp h8
            obtain ⟨its, h11, h12⟩ := Option.bind_eq_some_iff.mp h10
            cases h12
            show (if kk = 0 ∧ isSet iter = false then _ else _) = _
            rw [if_pos hk, show ixOf Γ.N y = some i from R.N ▸ h3]
            show (if blkC Γ.N Γ.sc scope [(y, i)] = true ∧ locB (relS scope Γ.sc) y = true ∧ (scope.names.lookup y = some .cell ∨ (relS scope Γ.sc).names.lookup y = some .local) then _ else none) = _
            rw [if_pos (by rw [R.sc, R.N]; exact hb), e1, e2, it_eq R ihf h9 h11]
            rfl
          · cases h6
        · cases h4
      · cases h2
    · rename_i elt tgs tk tp iter ifs kk scope p
      split at h2
      · rename_i hk
        obtain ⟨own, h3, h4⟩ := Option.bind_eq_some_iff.mp h2
        split at h4
        · rename_i hb
          obtain ⟨ts, h5, h6⟩ := Option.bind_eq_some_iff.mp h4
          split at h6
          · obtain ⟨el, h7, h8⟩ := Option.bind_eq_some_iff.mp h6
            have Rb := R.blk (scope := scope)
            have ihB : ∀ (t : Bool) (e : Expr) (c : CE), co n { S with sc := relS scope S.sc } t e = some c → ev n { Γ with sc := relS scope Γ.sc } t e = evC Φ n c := co_ok n Rb
            have e1 : lcTest (fun c ρ => bF (ev n { Γ with sc := relS scope Γ.sc } true c ρ)) ifs = tsC (fun c ρ => bF (evC Φ n c ρ)) ts := coLT_ts (fun e c h => by rw [ihB true e c h]) h5
            have e2 := ihB false elt el h7
            obtain ⟨q, h9, h10⟩ := Option.bind_eq_some_iff.mp h8
            obtain ⟨its, h11, h12⟩ := Option.bind_eq_some_iff.mp h10
            cases h12
            show (if kk = 0 ∧ isSet iter = false then _ else _) = _
            rw [if_pos hk, show tsIx Γ.N tgs = some own from R.N ▸ h3]
            show (if blkC Γ.N Γ.sc scope own = true ∧ own.all (fun y => locB (relS scope Γ.sc) y.1 && (decide (scope.names.lookup y.1 = some .cell) || decide ((relS scope Γ.sc).names.lookup y.1 = some .local))) = true then _ else none) = _
            rw [if_pos (by rw [R.sc, R.N]; exact hb), e1, e2, it_eq R ihf h9 h11]
            rfl
          · cases h6
        · cases h4
      · cases h2
    · cases h2
end
end Mx
set_option maxHeartbeats 1000000
namespace Mx
open PySem L2

/-! ## Resolved statements -/
inductive CS where
  | nx | brk | cnt | bad | retN
  | app (x a : CE)
  | exp (a : CE)
  | ret (a : CE)
  | as1 (i : Nat) (e : CE)
  | asT (ts : List Nat) (e : CE)
  | asI (x i e : CE)
  | ite (t : CE) (a b : List CS)
  | for1 (y : Nat) (k : IK) (its : List CE) (body : List CS)
  | forT (ts : List Nat) (k : IK) (its : List CE) (body : List CS)
def stC (np i : Nat) (d : D) (ρ : Rho) : Option Rho := if decide (i < np) && isCel ρ i then none else some (ρ.set i (some (.imm d)))
def stsC (np : Nat) : List Nat → List D → Rho → Option Rho
  | [], [], ρ => some ρ
  | i :: ts, d :: ds, ρ => (stC np i d ρ).bind fun ρ1 => stsC np ts ds ρ1
  | _, _, _ => none
def blockC (es : CS → Rho → Option (Out × Rho)) : List CS → Rho → Option (Out × Rho)
  | [], ρ => some (.nx, ρ)
  | s :: ss, ρ => (es s ρ).bind fun r => match r.1 with
    | .nx => blockC es ss r.2
    | o => some (o, r.2)
def stTC (np : Nat) (ts : List Nat) (d : D) (ρ : Rho) : Option Rho := match d with
  | .tup l => stsC np ts l ρ
  | _ => none
def evCS (Φ : PhiN) (np : Nat) : Nat → CS → Rho → Option (Out × Rho)
  | 0, _, _ => none
  | n + 1, s, ρ => match s with
    | .nx => some (.nx, ρ)
    | .brk => some (.brk, ρ)
    | .cnt => some (.cnt, ρ)
    | .bad => none
    | .retN => some (.ret (.imm .non), ρ)
    | .app x a => match celC x ρ with
      | some k => (immF (evC Φ n a) ρ).bind fun p => match p.2[k]? with
        | some (some (.cel l)) => if l.length < line then some (.nx, p.2.set k (some (.cel (l ++ [p.1])))) else none
        | _ => none
      | none => none
    | .exp a => (evC Φ n a ρ).bind fun p => some (.nx, p.2)
    | .ret e => match celC e ρ with
      | some i => if i < np then (evC Φ n e ρ).bind fun p => some (.ret p.1, p.2) else match ρ[i]? with
        | some (some (.cel l)) => some (.ret (.cel l), ρ.set i none)
        | _ => none
      | none => (evC Φ n e ρ).bind fun p => some (.ret p.1, p.2)
    | .as1 i e => (evC Φ n e ρ).bind fun p => match p.1 with
      | .imm d => (stC np i d p.2).bind fun ρ1 => some (.nx, ρ1)
      | .cel l => if i < np then (stC np i (.lst l) p.2).bind fun ρ1 => some (.nx, ρ1) else if i < p.2.length then some (.nx, p.2.set i (some (.cel l))) else none
    | .asT ts e => (immF (evC Φ n e) ρ).bind fun p => (stTC np ts p.1 p.2).bind fun ρ1 => some (.nx, ρ1)
    | .asI x i e => (immF (evC Φ n e) ρ).bind fun p => match celC x p.2 with
        | some k => (immF (evC Φ n i) p.2).bind fun q => match q.1, q.2[k]? with
          | .int j, some (some (.cel l)) => (ixN l.length j).bind fun m => some (.nx, q.2.set k (some (.cel (l.set m p.1))))
          | _, _ => none
        | none => none
    | .ite t a b => (bF (evC Φ n t ρ)).bind fun p => if p.1 then blockC (evCS Φ np n) a p.2 else blockC (evCS Φ np n) b p.2
    | .for1 y r it body => (itC (evC Φ n) r it ρ).bind fun p => forTurns (stC np y) (blockC (evCS Φ np n) body) p.1 p.2
    | .forT ts r it body => (itC (evC Φ n) r it ρ).bind fun p => forTurns (stTC np ts) (blockC (evCS Φ np n) body) p.1 p.2

def Sta.gam (S : Sta) : Gam := ⟨S.N, 0, S.sc, fun _ => none, fun _ => none, fun _ => false⟩
def coIt (n : Nat) (S : Sta) (tt : Bool) (iter : Expr) : Option (IK × List CE) :=
  (ikOf tt S.sc (fun x => S.B.contains x) iter).bind fun q => (coL (co n S false) q.2).bind fun its => some (q.1, its)
def coT (S : Sta) (x : Str) : Option Nat := if locB S.sc x then ixOf S.N x else none
def coTs (S : Sta) : List Expr → Option (List Nat)
  | [] => some []
  | .Name x _ :: ts => (coT S x).bind fun i => (coTs S ts).bind fun r => some (i :: r)
  | _ => none
def coB (c : Stmt → Option CS) : List Stmt → Option (List CS)
  | [] => some []
  | s :: ss => (c s).bind fun a => (coB c ss).bind fun r => some (a :: r)
def coS : Nat → Sta → Stmt → Option CS
  | 0, _, _ => none
  | n + 1, S, s => match s with
    | .Pass _ => some .nx
    | .Break _ => some .brk
    | .Continue _ => some .cnt
    | .Raise .. => some .bad
    | .Expr e _ => match e with
      | .Constant (.str _) _ _ => some .nx
      | .Call (.Attribute (.Name x xp) m ap) [a] [] cp => if m = "append" ∧ isStar a = false ∧ (ap.endLine == cp.line) = true then (co n S false (.Name x xp)).bind fun x' => (co n S false a).bind fun a' => some (.app x' a') else none
      | e => if isComp e then none else (co n S false e).bind fun a' => some (.exp a')
    | .Return none _ => some .retN
    | .Return (some e) _ => (co n S false e).bind fun a' => some (.ret a')
    | .Assign [.Name x _] e _ => (co n S false e).bind fun e' => (coT S x).bind fun i => some (.as1 i e')
    | .Assign [.Tuple ts _ _] e _ => if swOk S.gam ts e && !isComp e then (co n S false e).bind fun e' => (coTs S ts).bind fun is => some (.asT is e') else none
    | .Assign [.Subscript (.Name x xp) i _] e _ => if isComp e || isSlice i then none else (co n S false e).bind fun e' => (co n S false (.Name x xp)).bind fun x' => (co n S false i).bind fun i' => some (.asI x' i' e')
    | .If t a b _ => (co n S true t).bind fun t' => (coB (coS n S) a).bind fun a' => (coB (coS n S) b).bind fun b' => some (.ite t' a' b')
    | .For (.Name y yp) iter body [] _ => if isSet iter then none else (coT S y).bind fun i => (coIt n S false iter).bind fun p => (coB (coS n S) body).bind fun b' => some (.for1 i p.1 p.2 b')
    | .For (.Tuple ts _ _) iter body [] _ => if isSet iter then none else (coTs S ts).bind fun is => (coIt n S true iter).bind fun p => (coB (coS n S) body).bind fun b' => some (.forT is p.1 p.2 b')
    | _ => none

section
variable {S : Sta} {Γ : Gam} {Φ : PhiN} {n : Nat}
theorem itw_eq (R : Rel S Γ Φ) {tt : Bool} {iter : Expr} {ρ : Rho} {p : IK × List CE} (h : coIt n S tt iter = some p) :
    evIt tt Γ (ev n Γ false) iter ρ = itC (evC Φ n) p.1 p.2 ρ := by
  obtain ⟨q, h1, h2⟩ := Option.bind_eq_some_iff.mp h
  obtain ⟨its, h3, h4⟩ := Option.bind_eq_some_iff.mp h2
  cases h4
  exact it_eq R (fun e c h => co_ok n R false e c h) h1 h3
theorem coT_is (R : Rel S Γ Φ) {x : Str} {i : Nat} (h : coT S x = some i) : locB Γ.sc x = true ∧ ixOf Γ.N x = some i := by
  unfold coT at h
  split at h
  · rename_i l
    exact ⟨by rw [R.sc]; exact l, by rw [R.N]; exact h⟩
  · cases h
theorem st_eq (R : Rel S Γ Φ) {x : Str} {i : Nat} (h : coT S x = some i) : stName Γ x = stC Γ.np i := by
  obtain ⟨h1, h2⟩ := coT_is R h
  funext d ρ
  unfold stName
  rw [if_pos h1, h2]
  rfl
theorem sts_eq (R : Rel S Γ Φ) : ∀ {ts : List Expr} {is : List Nat}, coTs S ts = some is → stNames Γ ts = stsC Γ.np is
  | [], is, h => by
    cases h
    funext ds ρ
    cases ds <;> rfl
  | t :: ts, is, h => by
    cases t with
    | Name x p =>
      obtain ⟨i, h1, h2⟩ := Option.bind_eq_some_iff.mp (show (coT S x).bind (fun i => (coTs S ts).bind fun r => some (i :: r)) = some is from h)
      obtain ⟨r, h3, h4⟩ := Option.bind_eq_some_iff.mp h2
      cases h4
      funext ds ρ
      cases ds with
      | nil => rfl
      | cons d ds =>
        show (stName Γ x d ρ).bind (fun ρ1 => stNames Γ ts ds ρ1) = (stC Γ.np i d ρ).bind fun ρ1 => stsC Γ.np r ds ρ1
        rw [st_eq R h1, sts_eq R h3]
    | _ => cases h
theorem all_ok (R : Rel S Γ Φ) : ∀ {ts : List Expr} {is : List Nat}, coTs S ts = some is → ts.all (okT Γ) = true
  | [], is, h => rfl
  | t :: ts, is, h => by
    cases t with
    | Name x p =>
      obtain ⟨i, h1, h2⟩ := Option.bind_eq_some_iff.mp (show (coT S x).bind (fun i => (coTs S ts).bind fun r => some (i :: r)) = some is from h)
      obtain ⟨r, h3, h4⟩ := Option.bind_eq_some_iff.mp h2
      obtain ⟨a, b⟩ := coT_is R h1
      rw [List.all_cons, all_ok R h3, Bool.and_true]
      show (locB Γ.sc x && (ixOf Γ.N x).isSome) = true
      rw [a, b]
      rfl
    | _ => cases h
theorem sw_eq (R : Rel S Γ Φ) {ts : List Expr} {e : Expr} : swOk Γ ts e = swOk S.gam ts e := by
  unfold swOk
  cases e with
  | Tuple vs c p =>
    show (match swp ts vs (bkOf Γ.sc) (fun x => Γ.sc.names.lookup x) with
    | none => false
    | some none => true
    | some (some names) => parOk Γ ts names && decide (vs.length = ts.length)) = (match swp ts vs (bkOf S.sc) (fun x => S.sc.names.lookup x) with
    | none => false
    | some none => true
    | some (some names) => parOk S.gam ts names && decide (vs.length = ts.length))
    rw [R.sc]
    have : parOk Γ ts = parOk S.gam ts := by
      funext names
      unfold parOk
      rw [R.sc, R.N]
      rfl
    rw [this]
  | _ => rfl
theorem coB_ok {f : Stmt → Option CS} {es : Stmt → Rho → Option (Out × Rho)} {ec : CS → Rho → Option (Out × Rho)} (hf : ∀ s c, f s = some c → es s = ec c) : ∀ {ss : List Stmt} {cs : List CS}, coB f ss = some cs → blockW es ss = blockC ec cs
  | [], cs, h => by cases h; rfl
  | s :: ss, cs, h => by
    obtain ⟨a, h1, h2⟩ := Option.bind_eq_some_iff.mp (show (f s).bind (fun a => (coB f ss).bind fun r => some (a :: r)) = some cs from h)
    obtain ⟨r, h3, h4⟩ := Option.bind_eq_some_iff.mp h2
    cases h4
    funext ρ
    show ((es s ρ).bind fun r => match r.1 with
      | .nx => blockW es ss r.2
      | o => some (o, r.2)) = (ec a ρ).bind fun q => match q.1 with
      | .nx => blockC ec r q.2
      | o => some (o, q.2)
    rw [hf s a h1, coB_ok hf h3]
theorem coS_ok (R : Rel S Γ Φ) : ∀ (n : Nat) (s : Stmt) (c : CS), coS n S s = some c → evS n Γ s = evCS Φ Γ.np n c
  | 0, s, c, h => by cases h
  | n + 1, s, c, h => by
    have ihB : ∀ (ss : List Stmt) (cs : List CS), coB (coS n S) ss = some cs → blockW (evS n Γ) ss = blockC (evCS Φ Γ.np n) cs := fun ss cs h => coB_ok (fun s c h => coS_ok R n s c h) h
    have ihe : ∀ (t : Bool) (e : Expr) (c : CE), co n S t e = some c → ev n Γ t e = evC Φ n c := co_ok n R
    funext ρ
    unfold coS at h
    split at h
    · cases h; rfl
    · cases h; rfl
    · cases h; rfl
    · cases h; rfl
    · rename_i e0 p0
      split at h
      · cases h; rfl
      · rename_i x xp m ap a cp
        split at h
        · rename_i hm
          obtain ⟨x', h1, h2⟩ := Option.bind_eq_some_iff.mp h
          obtain ⟨a', h3, h4⟩ := Option.bind_eq_some_iff.mp h2
          cases h4
          show (if m = "append" ∧ isStar a = false ∧ (ap.endLine == cp.line) = true then _ else _) = _
          rw [if_pos hm, cel_eq R h1, ihe false a a' h3]
          show _ = (match celC x' ρ with
            | some k => (immF (evC Φ n a') ρ).bind fun p => match p.2[k]? with
              | some (some (.cel l)) => if l.length < line then some (Out.nx, p.2.set k (some (.cel (l ++ [p.1])))) else none
              | _ => none
            | none => none)
          rfl
        · cases h
      · rename_i hn1 hn2
        split at h
        · cases h
        · rename_i nc
          obtain ⟨a', h1, h2⟩ := Option.bind_eq_some_iff.mp h
          cases h2
          have hev : evS (n + 1) Γ (.Expr e0 p0) ρ = (ev n Γ false e0 ρ).bind fun p => some (.nx, p.2) := by
            rw [evS]
            · rw [if_neg nc]
            · exact hn1
            · exact hn2
          rw [hev, ihe false e0 a' h1]
          rfl
    · cases h; rfl
    · rename_i e p
      obtain ⟨a', h1, h2⟩ := Option.bind_eq_some_iff.mp h
      cases h2
      show (match celOf Γ e ρ with
      | some i => if i < Γ.np then (ev n Γ false e ρ).bind fun p => some (Out.ret p.1, p.2) else match ρ[i]? with
        | some (some (.cel l)) => some (.ret (.cel l), ρ.set i none)
        | _ => none
      | none => (ev n Γ false e ρ).bind fun p => some (.ret p.1, p.2)) = _
      rw [cel_eq R h1, ihe false e a' h1]
      rfl
    · rename_i x xp e p
      obtain ⟨e', h1, h2⟩ := Option.bind_eq_some_iff.mp h
      obtain ⟨i, h3, h4⟩ := Option.bind_eq_some_iff.mp h2
      cases h4
      obtain ⟨k1, k2⟩ := coT_is R h3
      show ((ev n Γ false e ρ).bind fun p => match p.1 with
      | .imm d => (stName Γ x d p.2).bind fun ρ1 => some (Out.nx, ρ1)
      | .cel l => if locB Γ.sc x then match ixOf Γ.N x with
        | some i => if i < Γ.np then (stName Γ x (.lst l) p.2).bind fun ρ1 => some (.nx, ρ1) else if i < p.2.length then some (.nx, p.2.set i (some (.cel l))) else none
        | none => none
        else none) = _
      rw [ihe false e e' h1, st_eq R h3]
      show _ = (evC Φ n e' ρ).bind fun p => match p.1 with
        | .imm d => (stC Γ.np i d p.2).bind fun ρ1 => some (Out.nx, ρ1)
        | .cel l => if i < Γ.np then (stC Γ.np i (.lst l) p.2).bind fun ρ1 => some (.nx, ρ1) else if i < p.2.length then some (.nx, p.2.set i (some (.cel l))) else none
      cases evC Φ n e' ρ with
      | none => rfl
      | some q =>
        obtain ⟨w, ρ1⟩ := q
        cases w with
        | imm d => rfl
        | cel l =>
          show (if locB Γ.sc x then _ else none) = _
          rw [if_pos k1, k2]
          rfl
    · rename_i ts c0 tp e p
      split at h
      · rename_i hs
        obtain ⟨e', h1, h2⟩ := Option.bind_eq_some_iff.mp h
        obtain ⟨is, h3, h4⟩ := Option.bind_eq_some_iff.mp h2
        cases h4
        show (if swOk Γ ts e && !isComp e then (immF (ev n Γ false e) ρ).bind fun p => match p.1 with
          | .tup l => (stNames Γ ts l p.2).bind fun ρ1 => some (Out.nx, ρ1)
          | _ => none
        else none) = _
        rw [sw_eq R, if_pos hs, ihe false e e' h1, sts_eq R h3]
        show _ = (immF (evC Φ n e') ρ).bind fun p => (stTC Γ.np is p.1 p.2).bind fun ρ1 => some (Out.nx, ρ1)
        cases immF (evC Φ n e') ρ with
        | none => rfl
        | some q =>
          obtain ⟨d, ρ1⟩ := q
          cases d <;> rfl
      · cases h
    · rename_i x xp i ip e p
      split at h
      · cases h
      · rename_i hc
        obtain ⟨e', h1, h2⟩ := Option.bind_eq_some_iff.mp h
        obtain ⟨x', h3, h4⟩ := Option.bind_eq_some_iff.mp h2
        obtain ⟨i', h5, h6⟩ := Option.bind_eq_some_iff.mp h4
        cases h6
        show (if isComp e || isSlice i then none else (immF (ev n Γ false e) ρ).bind fun p => match celOf Γ (.Name x xp) p.2 with
          | some k => (immF (ev n Γ false i) p.2).bind fun q => match q.1, q.2[k]? with
            | .int j, some (some (.cel l)) => (ixN l.length j).bind fun m => some (Out.nx, q.2.set k (some (.cel (l.set m p.1))))
            | _, _ => none
          | none => none) = _
        rw [if_neg hc, ihe false e e' h1, ihe false i i' h5, funext (cel_eq R h3)]
        rfl
    · rename_i t a b p
      obtain ⟨t', h1, h2⟩ := Option.bind_eq_some_iff.mp h
      obtain ⟨a', h3, h4⟩ := Option.bind_eq_some_iff.mp h2
      obtain ⟨b', h5, h6⟩ := Option.bind_eq_some_iff.mp h4
      cases h6
      show ((bF (ev n Γ true t ρ)).bind fun p => if p.1 then blockW (evS n Γ) a p.2 else blockW (evS n Γ) b p.2) = _
      rw [ihe true t t' h1, ihB a a' h3, ihB b b' h5]
      rfl
    · rename_i y yp iter body p
      split at h
      · cases h
      · rename_i ns
        obtain ⟨i, h1, h2⟩ := Option.bind_eq_some_iff.mp h
        obtain ⟨q, h3, h4⟩ := Option.bind_eq_some_iff.mp h2
        obtain ⟨b', h5, h6⟩ := Option.bind_eq_some_iff.mp h4
        cases h6
        obtain ⟨k1, k2⟩ := coT_is R h1
        show (if isSet iter || !okT Γ (.Name y yp) then none else (evIt false Γ (ev n Γ false) iter ρ).bind fun p => forTurns (stName Γ y) (blockW (evS n Γ) body) p.1 p.2) = _
        have ok : okT Γ (.Name y yp) = true := by
          show (locB Γ.sc y && (ixOf Γ.N y).isSome) = true
          rw [k1, k2]
          rfl
        rw [if_neg (by rw [ok]; simpa using ns), ihB body b' h5, st_eq R h1, itw_eq R h3]
        rfl
    · rename_i ts tc tp iter body p
      split at h
      · cases h
      · rename_i ns
        obtain ⟨is, h1, h2⟩ := Option.bind_eq_some_iff.mp h
        obtain ⟨q, h3, h4⟩ := Option.bind_eq_some_iff.mp h2
        obtain ⟨b', h5, h6⟩ := Option.bind_eq_some_iff.mp h4
        cases h6
        show (if isSet iter || !ts.all (okT Γ) then none else (evIt true Γ (ev n Γ false) iter ρ).bind fun p => forTurns (fun d ρ => match d with
          | .tup l => stNames Γ ts l ρ
          | _ => none) (blockW (evS n Γ) body) p.1 p.2) = _
        rw [if_neg (by rw [all_ok R h1]; simpa using ns), ihB body b' h5, sts_eq R h1, itw_eq R h3]
        rfl
    · cases h
end
end Mx
set_option maxHeartbeats 400000
namespace Mx
open PySem L2

/-! ## Resolved defs -/
structure Df where
  N : Nat
  np : Nat
  body : List CS
def runC (Φ : PhiN) (d : Df) (ens : List En) : Option (En × List (Option (List D))) :=
  (blockC (evCS Φ d.np fuel) d.body (ens.map some ++ List.replicate (d.N - ens.length) none)).bind fun p => match p.1 with
    | .ret e => (outsOf ens p.2).bind fun q => some (e, q)
    | .nx => (outsOf ens p.2).bind fun q => some (.imm .non, q)
    | _ => none
def phiN (ds : List Df) : Nat → PhiN
  | 0, _, _ => none
  | k + 1, f, ens => match ds[f]? with
    | some d => runC (phiN ds k) d ens
    | none => none
def stOf (T : List (Str × Rec)) (G : List (Str × D)) (B : List Str) (r : Rec) : Sta := ⟨r.N, defScope r.st, T, G, B⟩
def DfOk (T : List (Str × Rec)) (G : List (Str × D)) (B : List Str) (r : Rec) (d : Df) : Prop :=
  coB (coS fuel (stOf T G B r)) (defBody r.st) = some d.body ∧ r.N.length = d.N ∧ r.ps.length = d.np
theorem ixOf_lk {α : Type} : ∀ {T : List (Str × α)} {x : Str} {r : α} {i : Nat}, T.lookup x = some r → ixOf (T.map (·.1)) x = some i → T[i]? = some (x, r)
  | [], x, r, i, h, _ => by cases h
  | (y, s) :: T, x, r, i, h, h' => by
    rw [List.lookup_cons] at h
    rw [List.map_cons] at h'
    unfold ixOf at h'
    by_cases e : y = x
    · subst e
      rw [if_pos rfl] at h'
      cases h'
      simp at h
      cases h
      rfl
    · rw [if_neg e] at h'
      have e' : (x == y) = false := by simpa using fun z => e z.symm
      rw [e'] at h
      cases q : ixOf (T.map (·.1)) x with
      | none => rw [q] at h'; cases h'
      | some j =>
        rw [q] at h'
        cases h'
        simpa using ixOf_lk h q
theorem lk_mem {α : Type} : ∀ {T : List (Str × α)} {x : Str} {r : α}, T.lookup x = some r → (x, r) ∈ T
  | [], x, r, h => by cases h
  | (y, s) :: T, x, r, h => by
    rw [List.lookup_cons] at h
    cases e : x == y with
    | true =>
      rw [e] at h
      cases h
      have : x = y := by simpa using e
      subst this
      exact List.mem_cons_self
    | false =>
      rw [e] at h
      exact List.mem_cons_of_mem _ (lk_mem h)
theorem runC_eq {T : List (Str × Rec)} {G : List (Str × D)} {B : List Str} {Φ : Str → Option Fn} {φ : PhiN} {r : Rec} {d : Df} (o : DfOk T G B r d)
    (R : Rel (stOf T G B r) (gamOf (fun x => G.lookup x) (fun x => B.contains x) Φ r) φ) : runBody (gamOf (fun x => G.lookup x) (fun x => B.contains x) Φ r) (defBody r.st) = runC φ d := by
  obtain ⟨h1, h2, h3⟩ := o
  funext ens
  unfold runBody runC
  have e := coB_ok (es := evS fuel (gamOf (fun x => G.lookup x) (fun x => B.contains x) Φ r)) (ec := evCS φ r.ps.length fuel) (fun s c h => coS_ok R fuel s c h) h1
  rw [e, h3]
  show (blockC _ _ (ens.map some ++ List.replicate (r.N.length - ens.length) none)).bind _ = _
  rw [h2]
  all_goals rfl
theorem rel_all {T : List (Str × Rec)} {G : List (Str × D)} {B : List Str} {ds : List Df} (apart : ∀ x r, T.lookup x = some r → B.contains x = false)
    (ok : ∀ (i : Nat) (x : Str) (r : Rec), T[i]? = some (x, r) → ∃ d, ds[i]? = some d ∧ DfOk T G B r d) : ∀ (k : Nat) (r : Rec),
    Rel (stOf T G B r) (gamOf (fun x => G.lookup x) (fun x => B.contains x) (callF T (fun x => G.lookup x) (fun x => B.contains x) k) r) (phiN ds k)
  | 0, r => ⟨rfl, rfl, fun _ => rfl, fun _ => rfl, fun x r fi h h' => .inr ⟨rfl, fun _ => rfl⟩, fun x h => rfl, apart⟩
  | k + 1, r => ⟨rfl, rfl, fun _ => rfl, fun _ => rfl, fun x r' fi h h' => .inl (by
      obtain ⟨d, e1, e2⟩ := ok fi x r' (ixOf_lk h h')
      show (T.lookup x).bind _ = _
      rw [show T.lookup x = some r' from h]
      show some _ = some _
      congr 2
      rw [runC_eq e2 (rel_all apart ok k r')]
      funext ens
      show _ = (match ds[fi]? with
        | some d => runC (phiN ds k) d ens
        | none => none)
      rw [e1]), fun x h => by
      show (T.lookup x).bind _ = _
      rw [show T.lookup x = none from h]
      rfl, apart⟩
theorem law_eq {T : List (Str × Rec)} {G : List (Str × D)} {B : List Str} {ds : List Df} (apart : ∀ x r, T.lookup x = some r → B.contains x = false)
    (ok : ∀ (i : Nat) (x : Str) (r : Rec), T[i]? = some (x, r) → ∃ d, ds[i]? = some d ∧ DfOk T G B r d) {k : Nat} {r : Rec} {d : Df} (o : DfOk T G B r d) :
    runBody (gamOf (fun x => G.lookup x) (fun x => B.contains x) (callF T (fun x => G.lookup x) (fun x => B.contains x) k) r) (defBody r.st) = runC (phiN ds k) d :=
  runC_eq o (rel_all apart ok k r)
end Mx
set_option maxHeartbeats 400000
namespace Mx
open PySem L2

/-! ## Steps of the resolved evaluator, as equations -/
section
variable {Φ : PhiN} {n : Nat} {ρ : Rho} {np : Nat}
theorem x_nm {i : Nat} : evC Φ (n + 1) (.nm i) ρ = rdC i ρ := rfl
theorem x_cst {d : D} : evC Φ (n + 1) (.cst d) ρ = some (.imm d, ρ) := rfl
theorem x_tup {es : List CE} : evC Φ (n + 1) (.tup es) ρ = (lsC (evC Φ n) es ρ).bind fun q => if q.1.length ≤ line then some (.imm (.tup q.1), q.2) else none := rfl
theorem x_lst {es : List CE} : evC Φ (n + 1) (.lst es) ρ = (lsC (evC Φ n) es ρ).bind fun q => if q.1.length ≤ line then some (.cel q.1, q.2) else none := rfl
theorem x_bin {op : Operator} {a b : CE} : evC Φ (n + 1) (.bin op a b) ρ = (immF (evC Φ n a) ρ).bind fun p => (immF (evC Φ n b) p.2).bind fun q => (binD op p.1 q.1).bind fun e => some (e, q.2) := rfl
theorem x_neg {a : CE} : evC Φ (n + 1) (.neg a) ρ = (immF (evC Φ n a) ρ).bind fun p => match p.1 with
      | .int i => some (.imm (.int (-i)), p.2)
      | _ => none := rfl
theorem x_not {a : CE} : evC Φ (n + 1) (.not a) ρ = (bF (evC Φ n a ρ)).bind fun p => some (.imm (.bl (!p.1)), p.2) := rfl
theorem x_bop {op : BoolOp} {es : List CE} : evC Φ (n + 1) (.bop op es) ρ = (bopC (fun a ρ => bF (evC Φ n a ρ)) op es ρ).bind fun p => some (.imm (.bl p.1), p.2) := rfl
theorem x_ite {a b c : CE} : evC Φ (n + 1) (.ite c a b) ρ = (bF (evC Φ n c ρ)).bind fun p => if p.1 then evC Φ n a p.2 else evC Φ n b p.2 := rfl
theorem x_cmp {op : CmpOp} {a b : CE} : evC Φ (n + 1) (.cmp op a b) ρ = (immF (evC Φ n a) ρ).bind fun p => (brC (evC Φ n) b p.2).bind fun q => (cmpD op p.1 q.1).bind fun c => some (.imm (.bl c), q.2) := rfl
theorem x_cmp2 {op op' : CmpOp} {a b c : CE} : evC Φ (n + 1) (.cmp2 op op' a b c) ρ = (immF (evC Φ n a) ρ).bind fun p => (immF (evC Φ n b) p.2).bind fun q => (cmpD op p.1 q.1).bind fun k =>
        if k then (immF (evC Φ n c) q.2).bind fun r => (cmpD op' q.1 r.1).bind fun k' => some (.imm (.bl k'), r.2) else some (.imm (.bl false), q.2) := rfl
theorem x_ixc {a i : CE} {k : Nat} (h : celC a ρ = some k) : evC Φ (n + 1) (.ix a i) ρ = (immF (evC Φ n i) ρ).bind fun q => match q.1, q.2[k]? with
        | .int j, some (some (.cel l)) => (ixD (.lst l) j).bind fun d => some (.imm d, q.2)
        | _, _ => none := by
  show (match celC a ρ with
      | some k => (immF (evC Φ n i) ρ).bind fun q => match q.1, q.2[k]? with
        | .int j, some (some (.cel l)) => (ixD (.lst l) j).bind fun d => some (En.imm d, q.2)
        | _, _ => none
      | none => _) = _
  rw [h]
theorem x_ixi {a i : CE} (h : celC a ρ = none) : evC Φ (n + 1) (.ix a i) ρ = (immF (evC Φ n a) ρ).bind fun p => (immF (evC Φ n i) p.2).bind fun q => match q.1 with
        | .int j => (ixD p.1 j).bind fun d => some (.imm d, q.2)
        | _ => none := by
  show (match celC a ρ with
      | some k => _
      | none => (immF (evC Φ n a) ρ).bind fun p => (immF (evC Φ n i) p.2).bind fun q => match q.1 with
        | .int j => (ixD p.1 j).bind fun d => some (En.imm d, q.2)
        | _ => none) = _
  rw [h]
theorem x_own {f : Nat} {args : List CE} : evC Φ (n + 1) (.own f args) ρ = (agC (evC Φ n) args ρ).bind fun p => callC Φ f p.1 p.2 := rfl
theorem x_b1 {f : BI} {a : CE} : evC Φ (n + 1) (.b1 f a) ρ = (brC (evC Φ n) a ρ).bind fun p => (bcall1 f.str p.1).bind fun e => some (e, p.2) := rfl

/-! ## .. and as a relation: an expression comes to a value -/
structure Ev (Φ : PhiN) (n : Nat) (c : CE) (ρ : Rho) (e : En) (ρ' : Rho) : Prop where
  is : evC Φ n c ρ = some (e, ρ')
structure EvD (Φ : PhiN) (n : Nat) (c : CE) (ρ : Rho) (d : D) (ρ' : Rho) : Prop where
  is : immF (evC Φ n c) ρ = some (d, ρ')
structure EvB (Φ : PhiN) (n : Nat) (c : CE) (ρ : Rho) (b : Bool) (ρ' : Rho) : Prop where
  is : bF (evC Φ n c ρ) = some (b, ρ')
structure EvR (Φ : PhiN) (n : Nat) (c : CE) (ρ : Rho) (d : D) (ρ' : Rho) : Prop where
  is : brC (evC Φ n) c ρ = some (d, ρ')
structure EvL (Φ : PhiN) (n : Nat) (cs : List CE) (ρ : Rho) (ds : List D) (ρ' : Rho) : Prop where
  is : lsC (evC Φ n) cs ρ = some (ds, ρ')
structure EvA (Φ : PhiN) (n : Nat) (cs : List CE) (ρ : Rho) (ds : List Ag) (ρ' : Rho) : Prop where
  is : agC (evC Φ n) cs ρ = some (ds, ρ')
structure EvO (Φ : PhiN) (n : Nat) (op : BoolOp) (cs : List CE) (ρ : Rho) (k : Bool) (ρ' : Rho) : Prop where
  is : bopC (fun a ρ => bF (evC Φ n a ρ)) op cs ρ = some (k, ρ')
structure EvS (Φ : PhiN) (n : Nat) (o : Option CE) (ρ : Rho) (d : Option Int) (ρ' : Rho) : Prop where
  is : oC (evC Φ n) o ρ = some (d, ρ')
structure St (Φ : PhiN) (np n : Nat) (s : CS) (ρ : Rho) (o : Out) (ρ' : Rho) : Prop where
  is : evCS Φ np n s ρ = some (o, ρ')
structure Bk (Φ : PhiN) (np n : Nat) (s : List CS) (ρ : Rho) (o : Out) (ρ' : Rho) : Prop where
  is : blockC (evCS Φ np n) s ρ = some (o, ρ')
/-- a def of one's own comes to a value, and to what it leaves of the lists -/
structure Cl (Φ : PhiN) (f : Nat) (ens : List En) (e : En) (outs : List (Option (List D))) : Prop where
  is : Φ f ens = some (e, outs)
variable {ρ ρ' ρ1 ρ2 ρ3 : Rho} {a b c i : CE} {d d1 d2 d3 : D} {e : En} {es : List CE} {dl : List D}
theorem EvD.imm (h : Ev Φ n c ρ (.imm d) ρ') : EvD Φ n c ρ d ρ' := ⟨by unfold immF; rw [h.is]; rfl⟩
theorem EvD.cel {l : List D} (h : Ev Φ n c ρ (.cel l) ρ') : EvD Φ n c ρ (.lst l) ρ' := ⟨by unfold immF; rw [h.is]; rfl⟩
theorem EvD.any (h : Ev Φ n c ρ e ρ') : EvD Φ n c ρ e.toD ρ' := ⟨by unfold immF; rw [h.is]⟩
theorem EvB.of {b : Bool} (h : Ev Φ n c ρ (.imm (.bl b)) ρ') : EvB Φ n c ρ b ρ' := ⟨by rw [h.is]; rfl⟩
theorem Ev.nm {i : Nat} (h : ρ[i]? = some (some (.imm d))) : Ev Φ (n + 1) (.nm i) ρ (.imm d) ρ := ⟨by
  show rdC i ρ = _
  unfold rdC
  rw [h]⟩
theorem Ev.nmc {i : Nat} {l : List D} (h : ρ[i]? = some (some (.cel l))) : Ev Φ (n + 1) (.nm i) ρ (.imm (.lst l)) (ρ.set i (some (.imm (.lst l)))) := ⟨by
  show rdC i ρ = _
  unfold rdC
  rw [h]⟩
theorem Ev.cst : Ev Φ (n + 1) (.cst d) ρ (.imm d) ρ := ⟨rfl⟩
theorem Ev.tup (h : EvL Φ n es ρ dl ρ') (k : dl.length ≤ line) : Ev Φ (n + 1) (.tup es) ρ (.imm (.tup dl)) ρ' := ⟨by
  rw [x_tup, h.is]
  exact if_pos k⟩
theorem Ev.lst (h : EvL Φ n es ρ dl ρ') (k : dl.length ≤ line) : Ev Φ (n + 1) (.lst es) ρ (.cel dl) ρ' := ⟨by
  rw [x_lst, h.is]
  exact if_pos k⟩
theorem Ev.bin {op : Operator} (h1 : EvD Φ n a ρ d1 ρ1) (h2 : EvD Φ n b ρ1 d2 ρ2) (h3 : binD op d1 d2 = some e) : Ev Φ (n + 1) (.bin op a b) ρ e ρ2 := ⟨by
  rw [x_bin, h1.is]
  show (immF (evC Φ n b) ρ1).bind _ = _
  rw [h2.is]
  show (binD op d1 d2).bind _ = _
  rw [h3]
  rfl⟩
theorem Ev.neg {i : Int} (h : EvD Φ n a ρ d ρ1) (hj : d = .int i) : Ev Φ (n + 1) (.neg a) ρ (.imm (.int (-i))) ρ1 := ⟨by
  subst hj
  rw [x_neg, h.is]
  rfl⟩
theorem Ev.not {k : Bool} (h : EvB Φ n a ρ k ρ1) : Ev Φ (n + 1) (.not a) ρ (.imm (.bl (!k))) ρ1 := ⟨by
  rw [x_not, h.is]
  rfl⟩
theorem Ev.bop {op : BoolOp} {k : Bool} (h : EvO Φ n op es ρ k ρ1) : Ev Φ (n + 1) (.bop op es) ρ (.imm (.bl k)) ρ1 := ⟨by
  rw [x_bop, h.is]
  rfl⟩
theorem EvO.one {op : BoolOp} {k : Bool} (h : EvB Φ n a ρ k ρ1) : EvO Φ n op [a] ρ k ρ1 := ⟨by
  unfold bopC
  rw [h.is]
  rfl⟩
theorem EvO.and {k k' : Bool} (h : EvB Φ n a ρ k ρ1) (h' : EvO Φ n .And (b :: es) ρ1 k' ρ1) : EvO Φ n .And (a :: b :: es) ρ (k && k') ρ1 := ⟨by
  unfold bopC
  rw [h.is]
  cases k with
  | true => exact h'.is
  | false => rfl⟩
theorem EvO.andF (h : EvB Φ n a ρ false ρ1) : EvO Φ n .And (a :: b :: es) ρ false ρ1 := ⟨by
  unfold bopC
  rw [h.is]
  rfl⟩
theorem EvO.or {k k' : Bool} (h : EvB Φ n a ρ k ρ1) (h' : EvO Φ n .Or (b :: es) ρ1 k' ρ1) : EvO Φ n .Or (a :: b :: es) ρ (k || k') ρ1 := ⟨by
  unfold bopC
  rw [h.is]
  cases k with
  | true => rfl
  | false => exact h'.is⟩
theorem EvO.orT (h : EvB Φ n a ρ true ρ1) : EvO Φ n .Or (a :: b :: es) ρ true ρ1 := ⟨by
  unfold bopC
  rw [h.is]
  rfl⟩
theorem Ev.iteT (h : EvB Φ n c ρ true ρ1) (h' : Ev Φ n a ρ1 e ρ2) : Ev Φ (n + 1) (.ite c a b) ρ e ρ2 := ⟨by
  rw [x_ite, h.is]
  exact h'.is⟩
theorem Ev.iteF (h : EvB Φ n c ρ false ρ1) (h' : Ev Φ n b ρ1 e ρ2) : Ev Φ (n + 1) (.ite c a b) ρ e ρ2 := ⟨by
  rw [x_ite, h.is]
  exact h'.is⟩
theorem Ev.cmp {op : CmpOp} {k : Bool} (h1 : EvD Φ n a ρ d1 ρ1) (h2 : EvR Φ n b ρ1 d2 ρ2) (h3 : cmpD op d1 d2 = some k) : Ev Φ (n + 1) (.cmp op a b) ρ (.imm (.bl k)) ρ2 := ⟨by
  rw [x_cmp, h1.is]
  show (brC (evC Φ n) b ρ1).bind _ = _
  rw [h2.is]
  show (cmpD op d1 d2).bind _ = _
  rw [h3]
  rfl⟩
theorem Ev.cmp2 {op op' : CmpOp} {k k' : Bool} (h1 : EvD Φ n a ρ d1 ρ) (h2 : EvD Φ n b ρ d2 ρ) (h3 : cmpD op d1 d2 = some k) (h4 : EvD Φ n c ρ d3 ρ) (h5 : cmpD op' d2 d3 = some k') : Ev Φ (n + 1) (.cmp2 op op' a b c) ρ (.imm (.bl (k && k'))) ρ := ⟨by
  rw [x_cmp2, h1.is]
  show (immF (evC Φ n b) ρ).bind _ = _
  rw [h2.is]
  show (cmpD op d1 d2).bind _ = _
  rw [h3]
  cases k with
  | false => rfl
  | true =>
    show (immF (evC Φ n c) ρ).bind _ = _
    rw [h4.is]
    show (cmpD op' d2 d3).bind _ = _
    rw [h5]
    rfl⟩
theorem Ev.tyEq {s : String} (h : EvD Φ n a ρ d ρ1) : Ev Φ (n + 1) (.tyEq a s) ρ (.imm (.bl (tyNameD d == s))) ρ1 := ⟨by
  show (immF (evC Φ n a) ρ).bind _ = _
  rw [h.is]
  rfl⟩
theorem Ev.isI {s : String} {k : Bool} (h : EvD Φ n a ρ d ρ1) (h' : kitB (tyNameD d) s = some k) : Ev Φ (n + 1) (.isI a s) ρ (.imm (.bl k)) ρ1 := ⟨by
  show (immF (evC Φ n a) ρ).bind (fun p => (kitB (tyNameD p.1) s).bind _) = _
  rw [h.is]
  show (kitB (tyNameD d) s).bind _ = _
  rw [h']
  rfl⟩
theorem EvR.nm {i : Nat} (h : ρ[i]? = some (some e)) : EvR Φ n (.nm i) ρ e.toD ρ := ⟨by
  show (match ρ[i]? with | some (some e) => some (e.toD, ρ) | _ => none) = _
  rw [h]⟩
theorem EvR.of (k : isNm c = false) (h : EvD Φ n c ρ d ρ1) : EvR Φ n c ρ d ρ1 := ⟨by
  rw [brC_not k]
  exact h.is⟩
theorem Ev.ixc {j : Int} {k : Nat} {l : List D} (h0 : ρ[k]? = some (some (.cel l))) (h : EvD Φ n i ρ d1 ρ1) (hj : d1 = .int j) (h1 : ρ1[k]? = some (some (.cel l))) (h2 : ixD (.lst l) j = some d) : Ev Φ (n + 1) (.ix (.nm k) i) ρ (.imm d) ρ1 := ⟨by
  subst hj
  have q : celC (.nm k) ρ = some k := by unfold celC; simp only [h0]
  rw [x_ixc q, h.is]
  show (match D.int j, ρ1[k]? with
        | .int j, some (some (.cel l)) => (ixD (.lst l) j).bind fun d => some (En.imm d, ρ1)
        | _, _ => none) = _
  rw [h1]
  show (ixD (.lst l) j).bind _ = _
  rw [h2]
  rfl⟩
theorem Ev.ixi {j : Int} (q : celC a ρ = none) (h0 : EvD Φ n a ρ d1 ρ1) (h : EvD Φ n i ρ1 d2 ρ2) (hj : d2 = .int j) (h2 : ixD d1 j = some d) : Ev Φ (n + 1) (.ix a i) ρ (.imm d) ρ2 := ⟨by
  subst hj
  rw [x_ixi q, h0.is]
  show (immF (evC Φ n i) ρ1).bind _ = _
  rw [h.is]
  show (ixD d1 j).bind _ = _
  rw [h2]
  rfl⟩
theorem EvS.no : EvS Φ n none ρ none ρ := ⟨rfl⟩
theorem EvS.ye {j : Int} (h : EvD Φ n a ρ d ρ1) (hj : d = .int j) : EvS Φ n (some a) ρ (some j) ρ1 := ⟨by
  subst hj
  show (immF (evC Φ n a) ρ).bind _ = _
  rw [h.is]
  rfl⟩
theorem Ev.sl {lo hi : Option CE} {x y : Option Int} (h0 : EvD Φ n a ρ d1 ρ1) (h1 : EvS Φ n lo ρ1 x ρ2) (h2 : EvS Φ n hi ρ2 y ρ3) (h3 : slD d1 x y = some e) : Ev Φ (n + 1) (.sl a lo hi) ρ e ρ3 := ⟨by
  show (immF (evC Φ n a) ρ).bind (fun p => (oC (evC Φ n) lo p.2).bind fun q => (oC (evC Φ n) hi q.2).bind fun r => (slD p.1 q.1 r.1).bind fun e => some (e, r.2)) = _
  rw [h0.is]
  show (oC (evC Φ n) lo ρ1).bind _ = _
  rw [h1.is]
  show (oC (evC Φ n) hi ρ2).bind _ = _
  rw [h2.is]
  show (slD d1 x y).bind _ = _
  rw [h3]
  rfl⟩
theorem EvL.nil : EvL Φ n [] ρ [] ρ := ⟨rfl⟩
theorem EvL.cons (h : EvD Φ n a ρ d ρ1) (h' : EvL Φ n es ρ1 dl ρ2) : EvL Φ n (a :: es) ρ (d :: dl) ρ2 := ⟨by
  unfold lsC
  rw [h.is]
  show (lsC (evC Φ n) es ρ1).bind _ = _
  rw [h'.is]
  rfl⟩
theorem EvA.nil : EvA Φ n [] ρ [] ρ := ⟨rfl⟩
theorem EvA.slot {k : Nat} {l : List D} {g : List Ag} (h : ρ[k]? = some (some (.cel l))) (h' : EvA Φ n es ρ g ρ2) : EvA Φ n (.nm k :: es) ρ (.slot k :: g) ρ2 := ⟨by
  have q : celC (.nm k) ρ = some k := by unfold celC; simp only [h]
  unfold agC
  rw [q]
  show (agC (evC Φ n) es ρ).bind _ = _
  rw [h'.is]
  rfl⟩
theorem EvA.val {g : List Ag} (q : celC a ρ = none) (h : EvD Φ n (unfz a) ρ d ρ1) (h' : EvA Φ n es ρ1 g ρ2) : EvA Φ n (a :: es) ρ (.val d :: g) ρ2 := ⟨by
  unfold agC
  rw [q]
  show (immF (evC Φ n (unfz a)) ρ).bind _ = _
  rw [h.is]
  show (agC (evC Φ n) es ρ1).bind _ = _
  rw [h'.is]
  rfl⟩
theorem Ev.own {f : Nat} {g : List Ag} {ens : List En} {outs : List (Option (List D))} (h : EvA Φ n es ρ g ρ1) (q : (if nodupB (slotsOf g) then ensOf ρ1 g else none) = some ens) (k : Cl Φ f ens e outs) (p : putBack ρ1 g outs = some ρ2) : Ev Φ (n + 1) (.own f es) ρ e ρ2 := ⟨by
  rw [x_own, h.is]
  show callC Φ f g ρ1 = _
  unfold callC
  rw [q]
  show (Φ f ens).bind _ = _
  rw [k.is]
  show (putBack ρ1 g outs).bind _ = _
  rw [p]
  rfl⟩
theorem Ev.ownK {f : Nat} {g : List Ag} {ws : List CE} {zs : List D} {perm : List Nat} {ens : List En} {outs : List (Option (List D))} (h : EvA Φ n es ρ g ρ1) (h' : EvL Φ n ws ρ1 zs ρ2)
    (q : (if nodupB (slotsOf (perm.filterMap fun j => (g ++ zs.map .val)[j]?)) then ensOf ρ2 (perm.filterMap fun j => (g ++ zs.map .val)[j]?) else none) = some ens) (k : Cl Φ f ens e outs)
    (p : putBack ρ2 (perm.filterMap fun j => (g ++ zs.map .val)[j]?) outs = some ρ3) : Ev Φ (n + 1) (.ownK f es ws perm) ρ e ρ3 := ⟨by
  show (agC (evC Φ n) es ρ).bind (fun p => (lsC (evC Φ n) ws p.2).bind fun q => callC Φ f (perm.filterMap fun j => (p.1 ++ q.1.map .val)[j]?) q.2) = _
  rw [h.is]
  show (lsC (evC Φ n) ws ρ1).bind _ = _
  rw [h'.is]
  show callC Φ f _ ρ2 = _
  unfold callC
  show (if nodupB (slotsOf (perm.filterMap fun j => (g ++ zs.map .val)[j]?)) then ensOf ρ2 (perm.filterMap fun j => (g ++ zs.map .val)[j]?) else none).bind _ = _
  rw [q]
  show (Φ f ens).bind _ = _
  rw [k.is]
  show (putBack ρ2 _ outs).bind _ = _
  rw [p]
  rfl⟩
theorem Ev.b1 {f : BI} (h : EvR Φ n a ρ d ρ1) (h' : bcall1 f.str d = some e) : Ev Φ (n + 1) (.b1 f a) ρ e ρ1 := ⟨by
  rw [x_b1, h.is]
  show (bcall1 f.str d).bind _ = _
  rw [h']
  rfl⟩
theorem Ev.ss {e : En} (h : EvR Φ n a ρ d ρ1) (h' : srtD d = some e) : Ev Φ (n + 1) (.ss a) ρ e ρ1 := ⟨by
  show (brC (evC Φ n) a ρ).bind (fun p => (srtD p.1).bind fun e => some (e, p.2)) = _
  rw [h.is]
  show (srtD d).bind _ = _
  rw [h']
  rfl⟩
theorem Ev.max {i j : Int} (h : EvL Φ n [a, b] ρ [d1, d2] ρ1) (h1 : d1 = .int i) (h2 : d2 = .int j) : Ev Φ (n + 1) (.max a b) ρ (.imm (.int (if j > i then j else i))) ρ1 := ⟨by
  subst h1 h2
  show (lsC (evC Φ n) [a, b] ρ).bind _ = _
  rw [h.is]
  rfl⟩
theorem bi_len {l : List D} : bcall1 (BI.str .len) (.tup l) = some (.imm (.int l.length)) := rfl
theorem bi_int {i : Int} : bcall1 (BI.str .int) (.int i) = some (.imm (.int i)) := rfl

theorem St.app {k : Nat} {l : List D} {x : CE} (h0 : celC x ρ = some k) (h : EvD Φ n a ρ d ρ1) (h1 : ρ1[k]? = some (some (.cel l))) (h2 : l.length < line) : St Φ np (n + 1) (.app x a) ρ .nx (ρ1.set k (some (.cel (l ++ [d])))) := ⟨by
  show (match celC x ρ with
      | some k => (immF (evC Φ n a) ρ).bind fun p => match p.2[k]? with
        | some (some (.cel l)) => if l.length < line then some (Out.nx, p.2.set k (some (.cel (l ++ [p.1])))) else none
        | _ => none
      | none => none) = _
  rw [h0, h.is]
  show (match ρ1[k]? with
        | some (some (.cel l)) => if l.length < line then some (Out.nx, ρ1.set k (some (.cel (l ++ [d])))) else none
        | _ => none) = _
  rw [h1]
  exact if_pos h2⟩
theorem St.exp (h : Ev Φ n a ρ e ρ1) : St Φ np (n + 1) (.exp a) ρ .nx ρ1 := ⟨by
  show (evC Φ n a ρ).bind _ = _
  rw [h.is]
  rfl⟩
theorem St.ret (q : celC a ρ = none) (h : Ev Φ n a ρ e ρ1) : St Φ np (n + 1) (.ret a) ρ (.ret e) ρ1 := ⟨by
  show (match celC a ρ with
      | some i => if i < np then (evC Φ n a ρ).bind fun p => some (Out.ret p.1, p.2) else match ρ[i]? with
        | some (some (.cel l)) => some (.ret (.cel l), ρ.set i none)
        | _ => none
      | none => (evC Φ n a ρ).bind fun p => some (Out.ret p.1, p.2)) = _
  rw [q, h.is]
  rfl⟩
theorem St.as1 {i : Nat} (h : Ev Φ n a ρ (.imm d) ρ1) (q : (decide (i < np) && isCel ρ1 i) = false) : St Φ np (n + 1) (.as1 i a) ρ .nx (ρ1.set i (some (.imm d))) := ⟨by
  show (evC Φ n a ρ).bind (fun p => match p.1 with
      | .imm d => (stC np i d p.2).bind fun ρ1 => some (Out.nx, ρ1)
      | .cel l => if i < np then (stC np i (.lst l) p.2).bind fun ρ1 => some (.nx, ρ1) else if i < p.2.length then some (.nx, p.2.set i (some (.cel l))) else none) = _
  rw [h.is]
  show (stC np i d ρ1).bind _ = _
  unfold stC
  rw [if_neg (by simp [q])]
  rfl⟩
theorem St.asC {i : Nat} {l : List D} (h : Ev Φ n a ρ (.cel l) ρ1) (q : ¬ i < np) (q' : i < ρ1.length) : St Φ np (n + 1) (.as1 i a) ρ .nx (ρ1.set i (some (.cel l))) := ⟨by
  show (evC Φ n a ρ).bind (fun p => match p.1 with
      | .imm d => (stC np i d p.2).bind fun ρ1 => some (Out.nx, ρ1)
      | .cel l => if i < np then (stC np i (.lst l) p.2).bind fun ρ1 => some (.nx, ρ1) else if i < p.2.length then some (.nx, p.2.set i (some (.cel l))) else none) = _
  rw [h.is]
  show (if i < np then _ else if i < ρ1.length then _ else none) = _
  rw [if_neg q, if_pos q']⟩
theorem St.asT {ts : List Nat} (h : EvD Φ n a ρ d ρ1) (q : stTC np ts d ρ1 = some ρ2) : St Φ np (n + 1) (.asT ts a) ρ .nx ρ2 := ⟨by
  show (immF (evC Φ n a) ρ).bind (fun p => (stTC np ts p.1 p.2).bind fun ρ1 => some (Out.nx, ρ1)) = _
  rw [h.is]
  show (stTC np ts d ρ1).bind _ = _
  rw [q]
  rfl⟩
theorem St.asI {x : CE} {k : Nat} {j : Int} {m : Nat} {l : List D} (h : EvD Φ n a ρ d ρ1) (h0 : celC x ρ1 = some k) (h1 : EvD Φ n i ρ1 d1 ρ2) (hj : d1 = .int j) (h2 : ρ2[k]? = some (some (.cel l))) (h3 : ixN l.length j = some m) : St Φ np (n + 1) (.asI x i a) ρ .nx (ρ2.set k (some (.cel (l.set m d)))) := ⟨by
  subst hj
  show (immF (evC Φ n a) ρ).bind (fun p => match celC x p.2 with
        | some k => (immF (evC Φ n i) p.2).bind fun q => match q.1, q.2[k]? with
          | .int j, some (some (.cel l)) => (ixN l.length j).bind fun m => some (Out.nx, q.2.set k (some (.cel (l.set m p.1))))
          | _, _ => none
        | none => none) = _
  rw [h.is]
  show (match celC x ρ1 with
        | some k => (immF (evC Φ n i) ρ1).bind fun q => match q.1, q.2[k]? with
          | .int j, some (some (.cel l)) => (ixN l.length j).bind fun m => some (Out.nx, q.2.set k (some (.cel (l.set m d))))
          | _, _ => none
        | none => none) = _
  rw [h0, h1.is]
  show (match D.int j, ρ2[k]? with
          | .int j, some (some (.cel l)) => (ixN l.length j).bind fun m => some (Out.nx, ρ2.set k (some (.cel (l.set m d))))
          | _, _ => none) = _
  rw [h2]
  show (ixN l.length j).bind _ = _
  rw [h3]
  rfl⟩
theorem St.iteT {t : CE} {x y : List CS} {o : Out} (h : EvB Φ n t ρ true ρ1) (h' : Bk Φ np n x ρ1 o ρ2) : St Φ np (n + 1) (.ite t x y) ρ o ρ2 := ⟨by
  show (bF (evC Φ n t ρ)).bind (fun p => if p.1 then blockC (evCS Φ np n) x p.2 else blockC (evCS Φ np n) y p.2) = _
  rw [h.is]
  exact h'.is⟩
theorem St.iteF {t : CE} {x y : List CS} {o : Out} (h : EvB Φ n t ρ false ρ1) (h' : Bk Φ np n y ρ1 o ρ2) : St Φ np (n + 1) (.ite t x y) ρ o ρ2 := ⟨by
  show (bF (evC Φ n t ρ)).bind (fun p => if p.1 then blockC (evCS Φ np n) x p.2 else blockC (evCS Φ np n) y p.2) = _
  rw [h.is]
  exact h'.is⟩
theorem Bk.nil : Bk Φ np n [] ρ .nx ρ := ⟨rfl⟩
theorem Bk.cons {s : CS} {ss : List CS} {o : Out} (h : St Φ np n s ρ .nx ρ1) (h' : Bk Φ np n ss ρ1 o ρ2) : Bk Φ np n (s :: ss) ρ o ρ2 := ⟨by
  unfold blockC
  rw [h.is]
  exact h'.is⟩
theorem Bk.ret {s : CS} {ss : List CS} (h : St Φ np n s ρ (.ret e) ρ1) : Bk Φ np n (s :: ss) ρ (.ret e) ρ1 := ⟨by
  unfold blockC
  rw [h.is]
  rfl⟩
theorem Cl.ret {ds : List Df} {k f : Nat} {N np : Nat} {body : List CS} {ens : List En} {outs : List (Option (List D))} (h : ds[f]? = some ⟨N, np, body⟩) (h' : Bk (phiN ds k) np fuel body (ens.map some ++ List.replicate (N - ens.length) none) (.ret e) ρ') (q : outsOf ens ρ' = some outs) : Cl (phiN ds (k + 1)) f ens e outs := ⟨by
  show (match ds[f]? with
    | some d => runC (phiN ds k) d ens
    | none => none) = _
  rw [h]
  show runC (phiN ds k) ⟨N, np, body⟩ ens = _
  unfold runC
  rw [h'.is]
  show (outsOf ens ρ').bind _ = _
  rw [q]
  rfl⟩
theorem Cl.end {ds : List Df} {k f : Nat} {N np : Nat} {body : List CS} {ens : List En} {outs : List (Option (List D))} (h : ds[f]? = some ⟨N, np, body⟩) (h' : Bk (phiN ds k) np fuel body (ens.map some ++ List.replicate (N - ens.length) none) .nx ρ') (q : outsOf ens ρ' = some outs) : Cl (phiN ds (k + 1)) f ens (.imm .non) outs := ⟨by
  show (match ds[f]? with
    | some d => runC (phiN ds k) d ens
    | none => none) = _
  rw [h]
  show runC (phiN ds k) ⟨N, np, body⟩ ens = _
  unfold runC
  rw [h'.is]
  show (outsOf ens ρ').bind _ = _
  rw [q]
  rfl⟩
end
end Mx
set_option maxHeartbeats 400000
namespace Mx
open PySem L2
section
variable {d1 d2 : D} {i j : Int} {x y : Str} {l m : List D}
theorem b_add (h1 : d1 = .int i) (h2 : d2 = .int j) : binD .Add d1 d2 = some (.imm (.int (i + j))) := by subst h1 h2; rfl
theorem b_sub (h1 : d1 = .int i) (h2 : d2 = .int j) : binD .Sub d1 d2 = some (.imm (.int (i - j))) := by subst h1 h2; rfl
theorem b_mulL (h1 : d1 = .int i) (h2 : d2 = .int j) (h : -(2 ^ 64) < i ∧ i < 2 ^ 64) : binD .Mult d1 d2 = some (.imm (.int (i * j))) := by
  subst h1 h2
  show (if mulOk i j then _ else _) = _
  rw [if_pos]
  unfold mulOk
  simp
  omega
theorem b_mulR (h1 : d1 = .int i) (h2 : d2 = .int j) (h : -(2 ^ 64) < j ∧ j < 2 ^ 64) : binD .Mult d1 d2 = some (.imm (.int (i * j))) := by
  subst h1 h2
  show (if mulOk i j then _ else _) = _
  rw [if_pos]
  unfold mulOk
  simp
  omega
theorem mulL (h : -(2 ^ 64) < i ∧ i < 2 ^ 64) : mulOk i j = true := by
  unfold mulOk
  simp
  omega
theorem mulR (h : -(2 ^ 64) < j ∧ j < 2 ^ 64) : mulOk i j = true := by
  unfold mulOk
  simp
  omega
theorem b_mul (h1 : d1 = .int i) (h2 : d2 = .int j) (h : mulOk i j = true) : binD .Mult d1 d2 = some (.imm (.int (i * j))) := by
  subst h1 h2
  exact if_pos h
theorem b_mod (h1 : d1 = .int i) (h2 : d2 = .int j) (h : 0 < j) : binD .Mod d1 d2 = some (.imm (.int (i % j))) := by subst h1 h2; exact if_pos h
theorem b_fd (h1 : d1 = .int i) (h2 : d2 = .int j) (h : 0 < j ∧ j < 2 ^ 64) : binD .FloorDiv d1 d2 = some (.imm (.int (i / j))) := by subst h1 h2; exact if_pos h
theorem b_pow {p q : Nat} (h1 : d1 = .int p) (h2 : d2 = .int q) (h : q ≤ 1000 ∧ p < 2 ^ 64) : binD .Pow d1 d2 = some (.imm (.int ((p : Int) ^ q))) := by
  subst h1 h2
  exact if_pos ⟨by omega, by omega, by simpa using h.2⟩
theorem b_tt (h1 : d1 = .tup l) (h2 : d2 = .tup m) (h : l.length + m.length ≤ line) : binD .Add d1 d2 = some (.imm (.tup (l ++ m))) := by subst h1 h2; exact if_pos h
theorem b_ll (h1 : d1 = .lst l) (h2 : d2 = .lst m) (h : l.length + m.length ≤ line) : binD .Add d1 d2 = some (.cel (l ++ m)) := by subst h1 h2; exact if_pos h
theorem q_int (h1 : d1 = .int i) (h2 : d2 = .int j) : cmpD .Eq d1 d2 = some (decide (i = j)) := by subst h1 h2; rfl
theorem q_str (h1 : d1 = .str x) (h2 : d2 = .str y) : cmpD .Eq d1 d2 = some (decide (x = y)) := by subst h1 h2; rfl
theorem q_nei (h1 : d1 = .int i) (h2 : d2 = .int j) : cmpD .NotEq d1 d2 = some (!decide (i = j)) := by subst h1 h2; rfl
theorem q_ne (h1 : d1 = .str x) (h2 : d2 = .str y) : cmpD .NotEq d1 d2 = some (!decide (x = y)) := by subst h1 h2; rfl
theorem q_lt (h1 : d1 = .int i) (h2 : d2 = .int j) : cmpD .Lt d1 d2 = some (decide (i < j)) := by subst h1 h2; rfl
theorem q_le (h1 : d1 = .int i) (h2 : d2 = .int j) : cmpD .LtE d1 d2 = some (decide (i ≤ j)) := by subst h1 h2; rfl
theorem q_gt (h1 : d1 = .int i) (h2 : d2 = .int j) : cmpD .Gt d1 d2 = some (decide (j < i)) := by subst h1 h2; rfl
theorem q_ge (h1 : d1 = .int i) (h2 : d2 = .int j) : cmpD .GtE d1 d2 = some (decide (j ≤ i)) := by subst h1 h2; rfl
theorem f_len (h1 : d1 = .tup l) : bcall1 (BI.str .len) d1 = some (.imm (.int l.length)) := by subst h1; exact bi_len
theorem f_int (h1 : d1 = .int i) : bcall1 (BI.str .int) d1 = some (.imm (.int i)) := by subst h1; exact bi_int
theorem bi_tuple : bcall1 (BI.str .tuple) (.lst l) = some (.imm (.tup l)) := rfl
theorem f_tuple (h1 : d1 = .lst l) : bcall1 (BI.str .tuple) d1 = some (.imm (.tup l)) := by subst h1; exact bi_tuple
theorem bi_repr {d : D} (h : ((toPy d).showable && !(toPy d).hasDict && decide ((toPy d).depth ≤ 100) && decide ((toPy d).shown.length ≤ line)) = true) : bcall1 (BI.str .repr) d = some (.imm (.str (toPy d).shown)) := if_pos h
end
section
variable {Φ : PhiN} {n np : Nat} {ρ ρ1 ρ2 : Rho} {c t : CE} {k k' : Bool} {x y : List CS} {o : Out} {e : En} {s : CS} {ss : List CS}
theorem Ev.cast {e' : En} (h : Ev Φ n c ρ e ρ1) (q : e = e') : Ev Φ n c ρ e' ρ1 := q ▸ h
theorem EvB.cast (h : EvB Φ n c ρ k ρ1) (e : k = k') : EvB Φ n c ρ k' ρ1 := e ▸ h
theorem Ev.bl {b b' : Bool} (h : Ev Φ n c ρ (.imm (.bl b)) ρ1) (q : b = b') : Ev Φ n c ρ (.imm (.bl b')) ρ1 := q ▸ h
theorem Bk.ifE (h : EvB Φ n t ρ k ρ1) (hk : k = false) : Bk Φ np (n + 1) [.ite t x []] ρ .nx ρ1 := Bk.cons (St.iteF (hk ▸ h) Bk.nil) Bk.nil
theorem Bk.ifT (h : EvB Φ n t ρ k ρ1) (hk : k = true) (h' : Bk Φ np n x ρ1 .nx ρ2) {ρ3 : Rho} (h'' : Bk Φ np (n + 1) ss ρ2 o ρ3) : Bk Φ np (n + 1) (.ite t x y :: ss) ρ o ρ3 := Bk.cons (St.iteT (hk ▸ h) h') h''
theorem Bk.ifR (h : EvB Φ n t ρ k ρ1) (hk : k = true) (h' : Bk Φ np n x ρ1 (.ret e) ρ2) : Bk Φ np (n + 1) (.ite t x y :: ss) ρ (.ret e) ρ2 := Bk.ret (St.iteT (hk ▸ h) h')
theorem Bk.ifF (h : EvB Φ n t ρ k ρ1) (hk : k = false) (h'' : Bk Φ np (n + 1) ss ρ1 o ρ2) : Bk Φ np (n + 1) (.ite t x [] :: ss) ρ o ρ2 := Bk.cons (St.iteF (hk ▸ h) Bk.nil) h''
end
section
variable {Φ : PhiN} {n np : Nat} {ρ ρ1 ρ2 : Rho} {c it el : CE} {d : D} {e : En}
theorem lc_map {i : Nat} {test : Rho → Option (Bool × Rho)} {elt : Rho → Option (En × Rho)} {f : D → D} (ht : ∀ ρ, test ρ = some (true, ρ)) :
    ∀ {items : List D} {ρ : Rho}, (∀ x ∈ items, immF elt (ρ.set i (some (.imm x))) = some (f x, ρ.set i (some (.imm x)))) → i < ρ.length → ρ[i]? = some none → lcTurns test elt i items ρ = some (items.map f, ρ)
  | [], ρ, _, _, _ => rfl
  | x :: r, ρ, h, hi, h0 => by
    have hs : (ρ.set i (some (.imm x))).set i none = ρ := by
      rw [List.set_set]
      apply List.ext_getElem?
      intro j
      by_cases q : i = j
      · subst q
        rw [List.getElem?_set_self hi, h0]
      · rw [List.getElem?_set_ne q]
    unfold lcTurns
    rw [ht]
    show (immF elt (ρ.set i (some (.imm x)))).bind _ = _
    rw [h x List.mem_cons_self]
    show (lcTurns test elt i r ((ρ.set i (some (.imm x))).set i none)).bind _ = _
    rw [hs, lc_map ht (fun y hy => h y (List.mem_cons_of_mem _ hy)) hi h0]
    rfl
theorem itC_seq {items : List D} (h : EvD Φ n it ρ d ρ1) (h1 : seqD d = some items) : itC (evC Φ n) .seq [it] ρ = some (items, ρ1) := by
  unfold itC lsC
  rw [h.is]
  show (seqD d).bind _ = _
  rw [h1]
  rfl
theorem itC_rng {items : List D} (h : EvD Φ n it ρ d ρ1) (h1 : rngD d = some items) : itC (evC Φ n) .rng [it] ρ = some (items, ρ1) := by
  unfold itC lsC
  rw [h.is]
  show (rngD d).bind _ = _
  rw [h1]
  rfl
theorem itC_any {k : IK} {its : List CE} {ds items : List D} (h : EvL Φ n its ρ ds ρ1) (h1 : itK k ds = some items) : itC (evC Φ n) k its ρ = some (items, ρ1) := by
  unfold itC
  rw [h.is]
  show (itK k ds).bind _ = _
  rw [h1]
  rfl
theorem Ev.rev {a : CE} {e' : En} (h : EvD Φ n a ρ d ρ1) (h1 : revD d = some e') : Ev Φ (n + 1) (.rev a) ρ e' ρ1 := ⟨by
  show (immF (evC Φ n a) ρ).bind (fun p => (revD p.1).bind fun e => some (e, p.2)) = _
  rw [h.is]
  show (revD d).bind _ = _
  rw [h1]
  rfl⟩
theorem Ev.lcS {i : Nat} {items : List D} {ts : List CE} (h : EvD Φ n it ρ d ρ1) (h1 : seqD d = some items) (h2 : lcC items ρ1 i (tsC (fun c ρ => bF (evC Φ n c ρ)) ts) (evC Φ n el) = some (e, ρ2)) : Ev Φ (n + 1) (.lc1 i .seq [it] ts el) ρ e ρ2 := ⟨by
  show (itC (evC Φ n) .seq [it] ρ).bind (fun p => lcC p.1 p.2 i (tsC (fun c ρ => bF (evC Φ n c ρ)) ts) (evC Φ n el)) = _
  rw [itC_seq h h1]
  exact h2⟩
theorem Ev.lcR {i : Nat} {items : List D} {ts : List CE} (h : EvD Φ n it ρ d ρ1) (h1 : rngD d = some items) (h2 : lcC items ρ1 i (tsC (fun c ρ => bF (evC Φ n c ρ)) ts) (evC Φ n el) = some (e, ρ2)) : Ev Φ (n + 1) (.lc1 i .rng [it] ts el) ρ e ρ2 := ⟨by
  show (itC (evC Φ n) .rng [it] ρ).bind (fun p => lcC p.1 p.2 i (tsC (fun c ρ => bF (evC Φ n c ρ)) ts) (evC Φ n el)) = _
  rw [itC_rng h h1]
  exact h2⟩
theorem Ev.lcG {i : Nat} {k : IK} {its : List CE} {ds items : List D} {ts : List CE} (h : EvL Φ n its ρ ds ρ1) (h1 : itK k ds = some items) (h2 : lcC items ρ1 i (tsC (fun c ρ => bF (evC Φ n c ρ)) ts) (evC Φ n el) = some (e, ρ2)) : Ev Φ (n + 1) (.lc1 i k its ts el) ρ e ρ2 := ⟨by
  show (itC (evC Φ n) k its ρ).bind (fun p => lcC p.1 p.2 i (tsC (fun c ρ => bF (evC Φ n c ρ)) ts) (evC Φ n el)) = _
  rw [itC_any h h1]
  exact h2⟩
theorem Ev.lcT {is : List Nat} {k : IK} {its : List CE} {ds items : List D} {ts : List CE} (h : EvL Φ n its ρ ds ρ1) (h1 : itK k ds = some items) (h2 : lcCT items ρ1 is (tsC (fun c ρ => bF (evC Φ n c ρ)) ts) (evC Φ n el) = some (e, ρ2)) : Ev Φ (n + 1) (.lcT is k its ts el) ρ e ρ2 := ⟨by
  show (itC (evC Φ n) k its ρ).bind (fun p => lcCT p.1 p.2 is (tsC (fun c ρ => bF (evC Φ n c ρ)) ts) (evC Φ n el)) = _
  rw [itC_any h h1]
  exact h2⟩
theorem allBl_true : ∀ (m : Nat), allBl (List.replicate m (.bl true)) = some true
  | 0 => rfl
  | m + 1 => by
    show (allBl (List.replicate m (.bl true))).map (fun c => true && c) = _
    rw [allBl_true m]
    rfl
theorem allBl_map {α : Type} (l : List α) : allBl (l.map fun _ => D.bl true) = some true := by
  rw [List.map_const']
  exact allBl_true _
theorem bi_all {l : List D} : bcall1 (BI.str .all) (.lst l) = (allBl l).map fun b => .imm (.bl b) := rfl
/-- weakest form: a block comes to something that holds P -/
structure BkW (Φ : PhiN) (np n : Nat) (ss : List CS) (ρ : Rho) (P : Out → Rho → Prop) : Prop where
  is : ∃ o ρ', Bk Φ np n ss ρ o ρ' ∧ P o ρ'
theorem BkW.cons {s : CS} {ss : List CS} {P : Out → Rho → Prop} (J : Rho → Prop) (h : ∃ ρ1, St Φ np n s ρ .nx ρ1 ∧ J ρ1) (h' : ∀ ρ1, J ρ1 → BkW Φ np n ss ρ1 P) : BkW Φ np n (s :: ss) ρ P := by
  obtain ⟨ρ1, a, b⟩ := h
  obtain ⟨o, ρ2, c, d⟩ := (h' ρ1 b).is
  exact ⟨o, ρ2, Bk.cons a c, d⟩
theorem BkW.step {s : CS} {ss : List CS} {P : Out → Rho → Prop} (h : St Φ np n s ρ .nx ρ1) (h' : BkW Φ np n ss ρ1 P) : BkW Φ np n (s :: ss) ρ P := by
  obtain ⟨o, ρ2, c, d⟩ := h'.is
  exact ⟨o, ρ2, Bk.cons h c, d⟩
theorem BkW.nil {P : Out → Rho → Prop} (h : P .nx ρ) : BkW Φ np n [] ρ P := ⟨_, _, Bk.nil, h⟩
theorem BkW.of {ss : List CS} {o : Out} {P : Out → Rho → Prop} (h : Bk Φ np n ss ρ o ρ1) (p : P o ρ1) : BkW Φ np n ss ρ P := ⟨_, _, h, p⟩
theorem for_inv {y : Nat} {body : List CS} (I : Rho → Prop) : ∀ {items : List D} {ρ : Rho}, (∀ x ∈ items, ∀ ρ, I ρ → BkW Φ np n body (ρ.set y (some (.imm x))) (fun o ρ' => o = .nx ∧ I ρ')) → ¬ y < np → I ρ →
    ∃ ρ', forTurns (stC np y) (blockC (evCS Φ np n) body) items ρ = some (.nx, ρ') ∧ I ρ'
  | [], ρ, _, _, h => ⟨ρ, rfl, h⟩
  | x :: r, ρ, hb, hy, h => by
    obtain ⟨o, ρ1, a, rfl, b⟩ := (hb x List.mem_cons_self ρ h).is
    obtain ⟨ρ2, c, d⟩ := for_inv I (items := r) (fun x hx => hb x (List.mem_cons_of_mem _ hx)) hy b
    refine ⟨ρ2, ?_, d⟩
    have e : stC np y x ρ = some (ρ.set y (some (.imm x))) := by
      unfold stC
      rw [if_neg (by simp [hy])]
    unfold forTurns
    rw [e]
    show (blockC (evCS Φ np n) body (ρ.set y (some (.imm x)))).bind _ = _
    rw [a.is]
    exact c
theorem St.for1 {y : Nat} {body : List CS} {items : List D} (h : EvD Φ n it ρ d ρ1) (h1 : seqD d = some items) (h2 : forTurns (stC np y) (blockC (evCS Φ np n) body) items ρ1 = some (.nx, ρ2)) : St Φ np (n + 1) (.for1 y .seq [it] body) ρ .nx ρ2 := ⟨by
  show (itC (evC Φ n) .seq [it] ρ).bind _ = _
  rw [itC_seq h h1]
  exact h2⟩
theorem St.forR {y : Nat} {body : List CS} {items : List D} (h : EvD Φ n it ρ d ρ1) (h1 : rngD d = some items) (h2 : forTurns (stC np y) (blockC (evCS Φ np n) body) items ρ1 = some (.nx, ρ2)) : St Φ np (n + 1) (.for1 y .rng [it] body) ρ .nx ρ2 := ⟨by
  show (itC (evC Φ n) .rng [it] ρ).bind _ = _
  rw [itC_rng h h1]
  exact h2⟩
theorem St.forG {y : Nat} {k : IK} {its : List CE} {body : List CS} {ds items : List D} {o : Out} (h : EvL Φ n its ρ ds ρ1) (h1 : itK k ds = some items) (h2 : forTurns (stC np y) (blockC (evCS Φ np n) body) items ρ1 = some (o, ρ2)) : St Φ np (n + 1) (.for1 y k its body) ρ o ρ2 := ⟨by
  show (itC (evC Φ n) k its ρ).bind _ = _
  rw [itC_any h h1]
  exact h2⟩
theorem St.forT {is : List Nat} {k : IK} {its : List CE} {body : List CS} {ds items : List D} {o : Out} (h : EvL Φ n its ρ ds ρ1) (h1 : itK k ds = some items) (h2 : forTurns (stTC np is) (blockC (evCS Φ np n) body) items ρ1 = some (o, ρ2)) : St Φ np (n + 1) (.forT is k its body) ρ o ρ2 := ⟨by
  show (itC (evC Φ n) k its ρ).bind _ = _
  rw [itC_any h h1]
  exact h2⟩
end
end Mx
set_option maxHeartbeats 400000
namespace Mx
open PySem L2
section
variable {Φ : PhiN} {n np f : Nat} {ρ ρ1 ρ2 : Rho} {a b c t : CE} {es : List CE} {k k' : Bool} {d : D} {l : List D} {ens : List En} {outs : List (Option (List D))} {e : En}
theorem EvO.andT (h : EvB Φ n a ρ true ρ1) (h' : EvO Φ n .And (b :: es) ρ1 k' ρ2) : EvO Φ n .And (a :: b :: es) ρ k' ρ2 := ⟨by
  unfold bopC
  rw [h.is]
  exact h'.is⟩
theorem EvO.orF (h : EvB Φ n a ρ false ρ1) (h' : EvO Φ n .Or (b :: es) ρ1 k' ρ2) : EvO Φ n .Or (a :: b :: es) ρ k' ρ2 := ⟨by
  unfold bopC
  rw [h.is]
  exact h'.is⟩
theorem f_lenL (h1 : d = .lst l) : bcall1 (BI.str .len) d = some (.imm (.int l.length)) := by subst h1; rfl
theorem St.nx : St Φ np (n + 1) .nx ρ .nx ρ := ⟨rfl⟩
theorem St.retN : St Φ np (n + 1) .retN ρ (.ret (.imm .non)) ρ := ⟨rfl⟩
theorem St.retC' {i : Nat} (z : celC a ρ = some i) (h : ρ[i]? = some (some (.cel l))) (q : ¬ i < np) (r : ρ.set i none = ρ1) : St Φ np (n + 1) (.ret a) ρ (.ret (.cel l)) ρ1 := ⟨by
  show (match celC a ρ with
      | some i => if i < np then (evC Φ n a ρ).bind fun p => some (Out.ret p.1, p.2) else match ρ[i]? with
        | some (some (.cel l)) => some (.ret (.cel l), ρ.set i none)
        | _ => none
      | none => (evC Φ n a ρ).bind fun p => some (Out.ret p.1, p.2)) = _
  rw [z]
  show (if i < np then _ else _) = _
  rw [if_neg q, h, r]⟩
theorem St.retC {i : Nat} (h : ρ[i]? = some (some (.cel l))) (q : ¬ i < np) (r : ρ.set i none = ρ1) : St Φ np (n + 1) (.ret (.nm i)) ρ (.ret (.cel l)) ρ1 := St.retC' (by unfold celC; simp only [h]) h q r
theorem Cl.bl (h : Cl Φ f ens (.imm (.bl k)) outs) (q : k = k') : Cl Φ f ens (.imm (.bl k')) outs := q ▸ h
theorem Cl.cast {e' : En} (h : Cl Φ f ens e outs) (q : e = e') : Cl Φ f ens e' outs := q ▸ h
/-- what repr needs -/
def RO (d : D) : Prop := ((toPy d).showable && !(toPy d).hasDict && decide ((toPy d).depth ≤ 100) && decide ((toPy d).shown.length ≤ line)) = true
theorem f_repr {d : D} (h : RO d) : bcall1 (BI.str .repr) d = some (.imm (.str (toPy d).shown)) := bi_repr h
end

/-! ## Bounds, rules, readings -/
structure Mk where
  g : Int
  w : Bool
  m : Int
  deriving DecidableEq
abbrev wS (b : Bool) : Str := if b then "least" else "most"
def Mk.d (p : Mk) : D := .tup [.int p.g, .str (wS p.w), .int p.m]
inductive Ru where
  | bd (p : Mk) | ap (g h k : Int) | sm (g h : Int) (w : Bool) (k : Int) | ei (p q : Mk)
def Ru.d : Ru → D
  | .bd p => .tup [.str "bound", p.d]
  | .ap g h k => .tup [.str "apart", .int g, .int h, .int k]
  | .sm g h w k => .tup [.str "sum", .int g, .int h, .str (wS w), .int k]
  | .ei p q => .tup [.str "either", p.d, q.d]
structure Ga (n g : Int) : Prop where
  lo : 0 ≤ g
  hi : g < n
def Ru.ok (n : Int) : Ru → Prop
  | .bd p => Ga n p.g
  | .ap g h _ => Ga n g ∧ Ga n h ∧ g ≠ h
  | .sm g h _ _ => Ga n g ∧ Ga n h ∧ g < h
  | .ei p q => Ga n p.g ∧ Ga n q.g
def dI (s : List Int) : D := .tup (s.map D.int)
def seeN (s : List Int) (g : Int) : Int := s.getD g.toNat 0
def Mk.hd (s : List Int) (p : Mk) : Bool := if p.w then decide (p.m ≤ seeN s p.g) else decide (seeN s p.g ≤ p.m)
def Ru.hd (s : List Int) : Ru → Bool
  | .bd p => p.hd s
  | .ap g h k => decide (seeN s g ≤ seeN s h + k)
  | .sm g h w k => if w then decide (k ≤ seeN s g + seeN s h) else decide (seeN s g + seeN s h ≤ k)
  | .ei p q => p.hd s || q.hd s
theorem ix_dI {s : List Int} {n g : Int} (hg : Ga n g) (hl : (s.length : Int) = n) : ixD (dI s) g = some (.int (seeN s g)) := by
  obtain ⟨h0, h1⟩ := hg
  obtain ⟨j, rfl⟩ := Int.eq_ofNat_of_zero_le h0
  have hj : j < s.length := by omega
  show atI (s.map D.int) (j : Int) = _
  rw [atI_nat (by simpa using (List.getElem?_eq_some_iff.mpr ⟨by simpa using hj, rfl⟩ : (s.map D.int)[j]? = some _))]
  simp [seeN, hj]
theorem wS_L {b : Bool} (h : b = true) : decide (wS b = "least") = true := by subst h; rfl
theorem wS_M {b : Bool} (h : b = false) : decide (wS b = "least") = false := by subst h; decide +kernel
end Mx
namespace Mx
open PySem L2
/-! ## Comprehensions -/
inductive All2 {α β : Type} (P : α → β → Prop) : List α → List β → Prop
  | nil : All2 P [] []
  | cons {x : α} {y : β} {l : List α} {m : List β} : P x y → All2 P l m → All2 P (x :: l) (y :: m)
section
variable {n i : Nat} {el : CE}
theorem set_back {ρ : Rho} {x : Option En} (h0 : ρ[i]? = some none) : (ρ.set i x).set i none = ρ := by
  rw [List.set_set]
  apply List.ext_getElem?
  intro j
  by_cases q : i = j
  · subst q
    have hi : i < ρ.length := (List.getElem?_eq_some_iff.mp h0).1
    rw [List.getElem?_set_self hi, h0]
  · rw [List.getElem?_set_ne q]
theorem lcC_is {items ys : List D} {ρ ρ' : Rho} {test : Rho → Option (Bool × Rho)} {elt : Rho → Option (En × Rho)} (h0 : ρ[i]? = some none) (h : lcTurns test elt i items ρ = some (ys, ρ')) (hl : ys.length ≤ line) : lcC items ρ i test elt = some (.cel ys, ρ'.set i none) := by
  unfold lcC
  simp only [h0]
  have e : ρ.set i none = ρ := by
    have := set_back (x := none) h0
    rwa [List.set_set] at this
  rw [e, h]
  exact if_pos hl
theorem lcC_map {Φ : PhiN} {items : List D} {ρ : Rho} {f : D → D} (h0 : ρ[i]? = some none) (hl : items.length ≤ line) (h : ∀ x ∈ items, EvD Φ n el (ρ.set i (some (.imm x))) (f x) (ρ.set i (some (.imm x)))) :
    lcC items ρ i (tsC (fun c ρ => bF (evC Φ n c ρ)) []) (evC Φ n el) = some (.cel (items.map f), ρ) := by
  have hi : i < ρ.length := (List.getElem?_eq_some_iff.mp h0).1
  have := lcC_is h0 (lc_map (test := tsC (fun c ρ => bF (evC Φ n c ρ)) []) (elt := evC Φ n el) (f := f) (fun _ => rfl) (fun x hx => (h x hx).is) hi h0) (by rw [List.length_map]; exact hl)
  rw [this]
  have := set_back (x := none) h0
  rw [List.set_set] at this
  rw [this]
/-- a comprehension that goes on with what it draws from -/
theorem lcT_st {Φs : Nat → PhiN} {I : Nat → Rho → Prop} {P : D → D → Prop} {T : Nat} : ∀ (items : List D), (∀ j ρ, ∀ x ∈ items, j < T → I j ρ → ∃ y ρ1, (∀ k, EvD (Φs k) n el (ρ.set i (some (.imm x))) y ρ1) ∧ P x y ∧ I (j + 1) (ρ1.set i none)) → ∀ (j : Nat) (ρ : Rho), j + items.length ≤ T → I j ρ →
    ∃ ys ρ', (∀ k, lcTurns (tsC (fun c ρ => bF (evC (Φs k) n c ρ)) []) (evC (Φs k) n el) i items ρ = some (ys, ρ')) ∧ All2 P items ys ∧ I (j + items.length) ρ'
  | [], _, j, ρ, _, h => ⟨[], ρ, fun _ => rfl, .nil, h⟩
  | x :: r, step, j, ρ, hT, h => by
    rw [List.length_cons] at hT
    obtain ⟨y, ρ1, e1, p, h1⟩ := step j ρ x List.mem_cons_self (by omega) h
    obtain ⟨ys, ρ', e2, a, h2⟩ := lcT_st r (fun j ρ x hx => step j ρ x (List.mem_cons_of_mem _ hx)) (j + 1) _ (by omega) h1
    refine ⟨y :: ys, ρ', fun k => ?_, .cons p a, by rw [List.length_cons, show j + (r.length + 1) = j + 1 + r.length by omega]; exact h2⟩
    unfold lcTurns
    show (immF (evC (Φs k) n el) (ρ.set i (some (.imm x)))).bind _ = _
    rw [(e1 k).is]
    show (lcTurns _ _ i r (ρ1.set i none)).bind _ = _
    rw [e2 k]
    rfl
end
theorem All2.len {α β : Type} {P : α → β → Prop} : ∀ {l : List α} {m : List β}, All2 P l m → m.length = l.length
  | _, _, .nil => rfl
  | _, _, .cons _ h => by simp [h.len]
theorem All2.ints {α : Type} {P : α → Int → Prop} : ∀ {l : List α} {m : List D}, All2 (fun x y => ∃ i, y = D.int i ∧ P x i) l m → ∃ s : List Int, m = s.map D.int ∧ All2 P l s
  | _, _, .nil => ⟨[], rfl, .nil⟩
  | _, _, .cons ⟨i, e, p⟩ h => by
    obtain ⟨s, e', q⟩ := h.ints
    exact ⟨i :: s, by rw [e, e']; rfl, .cons p q⟩
theorem All2.right {α β : Type} {P : α → β → Prop} {Q : β → Prop} (w : ∀ x y, P x y → Q y) : ∀ {l : List α} {m : List β}, All2 P l m → ∀ y ∈ m, Q y
  | _, _, .nil, _, h => by cases h
  | _, _, .cons p h, y, hy => by
    rcases List.mem_cons.mp hy with rfl | hy
    · exact w _ _ p
    · exact h.right w y hy
theorem rangeD_len {n : Nat} : (rangeD n).length = n := by simp [rangeD]
theorem rng_of {w : Int} (h : 0 ≤ w ∧ w ≤ 1000000) : rngD (.int w) = some (rangeD w.toNat) := if_pos (by omega)
end Mx
set_option maxHeartbeats 400000
namespace Mx
open PySem L2
/-! ## What the laws draw -/
def Bag (n : Nat) (l : List D) : Prop := ∃ a b c : Int, l = [.int a, .int b, .int c] ∧ (0 ≤ b ∧ b < 1000000000000000177) ∧ 0 ≤ c ∧ c ≤ n
theorem Bag.up {n m : Nat} {l : List D} (h : Bag n l) (q : n ≤ m) : Bag m l := by
  obtain ⟨a, b, c, e, h1, h2, h3⟩ := h
  exact ⟨a, b, c, e, h1, h2, by omega⟩
abbrev Big : Nat := 1099511627776
def Num (i : Int) : Prop := -1000000000000 < i ∧ i < 1000000000000
def Mk.n2 (p : Mk) : Prop := -2000000000000 ≤ p.m ∧ p.m ≤ 2000000000000
theorem seeN_mem {s : List Int} {n g : Int} (hg : Ga n g) (hl : (s.length : Int) = n) : seeN s g ∈ s := by
  obtain ⟨h0, h1⟩ := hg
  obtain ⟨j, rfl⟩ := Int.eq_ofNat_of_zero_le h0
  have hj : j < s.length := by omega
  simp [seeN, hj]
/-! ### texts of data are not too long -/
mutual
/-- a bound of the length of the text, where the numbers are small and the words are known -/
def rsz : D → Option Nat
  | .non => some 10
  | .bl _ => some 10
  | .int i => if -(10 : Int) ^ 40 < i ∧ i < (10 : Int) ^ 40 then some 2000 else none
  | .str x => if x = "least" ∨ x = "most" ∨ x = "bound" ∨ x = "apart" ∨ x = "sum" ∨ x = "either" then some 100 else none
  | .tup l => (rszs l).map (· + 10)
  | .lst l => (rszs l).map (· + 10)
def rszs : List D → Option Nat
  | [] => some 0
  | d :: ds => (rsz d).bind fun a => (rszs ds).bind fun b => some (a + b + 2)
end
end Mx
namespace Mx
open PySem L2
theorem lcC_ints {n i : Nat} {el : CE} {Φ : PhiN} {s : List Int} {ρ : Rho} {f : Int → Int} (h0 : ρ[i]? = some none) (hl : s.length ≤ line) (h : ∀ x ∈ s, EvD Φ n el (ρ.set i (some (.imm (.int x)))) (.int (f x)) (ρ.set i (some (.imm (.int x))))) :
    lcC (s.map D.int) ρ i (tsC (fun c ρ => bF (evC Φ n c ρ)) []) (evC Φ n el) = some (.cel ((s.map f).map D.int), ρ) := by
  have := lcC_map (Φ := Φ) (n := n) (el := el) (items := s.map D.int) (ρ := ρ) (i := i) (f := fun d => match d with | .int j => .int (f j) | d => d) h0 (by rw [List.length_map]; exact hl) (by
    intro x hx
    obtain ⟨y, hy, rfl⟩ := List.mem_map.mp hx
    exact h y hy)
  rw [this]
  simp
/-- the law's own loop over its cells -/
theorem law_loop {ds : List Df} {k f N : Nat} {B : List CS} {ns : List Int} {S : Rho → Prop} {it : CE} (hn : ns.length ≤ 63)
    (hd : ds[f]? = some ⟨N, 1, [.for1 1 .seq [it] B, .ret (.cst (.bl true))]⟩) (hN : 2 ≤ N)
    (hit : ∃ ms : List Int, (∀ ρ : Rho, ρ[0]? = some (some (.imm (.lst (ns.map D.int)))) → EvD (phiN ds k) 59 it ρ (.lst (ms.map D.int)) ρ))
    (h0 : S (some (.imm (.lst (ns.map D.int))) :: List.replicate (N - 1) none)) (hs0 : ∀ ρ, S ρ → ρ[0]? = some (some (.imm (.lst (ns.map D.int)))))
    (body : ∀ (c : Int) (ρ : Rho), S ρ → ∃ ρ', Bk (phiN ds k) 1 59 B (ρ.set 1 (some (.imm (.int c)))) .nx ρ' ∧ S ρ') :
    Cl (phiN ds (k + 1)) f [.imm (.lst (ns.map D.int))] (.imm (.bl true)) [none] := by
  obtain ⟨ms, hit⟩ := hit
  have hi : ∃ ρ', forTurns (stC 1 1) (blockC (evCS (phiN ds k) 1 59) B) (ms.map D.int) (some (.imm (.lst (ns.map D.int))) :: List.replicate (N - 1) none) = some (.nx, ρ') ∧ S ρ' := by
    refine for_inv S ?_ (by decide) h0
    rintro d hd ρ hS
    obtain ⟨a, _, rfl⟩ := List.mem_map.mp hd
    obtain ⟨ρ', h1, h2⟩ := body a ρ hS
    exact ⟨_, ρ', h1, rfl, h2⟩
  obtain ⟨ρ', h1, h2⟩ := hi
  have e : ([En.imm (.lst (ns.map D.int))].map some ++ List.replicate (N - [En.imm (.lst (ns.map D.int))].length) none : Rho) = some (.imm (.lst (ns.map D.int))) :: List.replicate (N - 1) none := rfl
  refine Cl.ret hd (ρ' := ρ') ?_ ?_
  · rw [e]
    exact Bk.cons (St.for1 (hit _ rfl) rfl h1) (Bk.ret (St.ret rfl Ev.cst))
  · have z := hs0 ρ' h2
    cases ρ' with
    | nil => simp at z
    | cons a r =>
      simp at z
      subst z
      rfl
theorem it_all {Φ : PhiN} {c0 : Int} {ns : List Int} (hn : ns.length ≤ 63) (ρ : Rho) (h : ρ[0]? = some (some (.imm (.lst (ns.map D.int))))) : EvD Φ 59 (.bin .Add (.lst [.cst (.int c0)]) (.nm 0)) ρ (.lst ((c0 :: ns).map D.int)) ρ :=
  EvD.cel (Ev.bin (d1 := .lst [.int c0]) (d2 := .lst (ns.map D.int)) (EvD.cel (Ev.lst (EvL.cons (EvD.imm Ev.cst) EvL.nil) (show 1 ≤ line by decide))) (EvD.imm (Ev.nm h)) (b_ll rfl rfl (by
    rw [List.length_map]
    exact Nat.le_trans (show 1 + ns.length ≤ 64 by omega) (by decide))))
theorem it_take {Φ : PhiN} {c0 : Int} {ns : List Int} {m : Nat} (hn : ns.length ≤ 63) (hm : m ≤ 63) (ρ : Rho) (h : ρ[0]? = some (some (.imm (.lst (ns.map D.int))))) : EvD Φ 59 (.bin .Add (.lst [.cst (.int c0)]) (.sl (.nm 0) none (some (.cst (.int m))))) ρ (.lst ((c0 :: ns.take m).map D.int)) ρ :=
  EvD.cel (Ev.bin (d1 := .lst [.int c0]) (d2 := .lst ((ns.take m).map D.int)) (EvD.cel (Ev.lst (EvL.cons (EvD.imm Ev.cst) EvL.nil) (show 1 ≤ line by decide))) (EvD.any (Ev.sl (e := .cel ((ns.take m).map D.int)) (EvD.imm (Ev.nm h)) EvS.no (EvS.ye (EvD.imm Ev.cst) rfl) (by
      show some (En.cel (cutL (ns.map D.int) none (some (m : Int)))) = _
      unfold cutL
      rw [HT.sIx_none, HT.sIx_nat, List.length_map]
      simp))) (b_ll rfl rfl (by
    rw [List.length_map]
    exact Nat.le_trans (show 1 + (ns.take m).length ≤ 64 by rw [List.length_take]; omega) (by decide))))
theorem ro_b {b : Bool} : RO (.bl b) := by cases b <;> (unfold RO; decide +kernel)
end Mx
set_option maxHeartbeats 400000
namespace Mx
open PySem L2
/-! ## Equal data -/
theorem wS_eqL {b : Bool} : decide (wS b = "least") = b := by cases b <;> decide +kernel
theorem wS_eqM {b : Bool} : decide (wS b = "most") = !b := by cases b <;> decide +kernel
theorem wS_inj {a b : Bool} : decide (wS a = wS b) = decide (a = b) := by cases a <;> cases b <;> decide +kernel
theorem wS_ne {a b : Bool} : (wS a = wS b) ↔ a = b := by rw [← decide_eq_decide]; exact wS_inj
def Shp (d : D) : Prop := (toPy d).canLay0 = true ∧ (toPy d).depth ≤ 60
theorem eqD_shp {x y : D} (hx : Shp x) (hy : Shp y) (h : ∀ i, x ≠ .int i) (h' : ∀ i, x ≠ .str i) (h'' : ∀ i, x ≠ .bl i) : eqD x y = some (PyData.eqv (toPy x) (toPy y)) := by
  have e : ∀ {d}, Shp d → SeqAt.shaped (toPy d) = true := fun {d} q => by
    unfold SeqAt.shaped
    rw [q.1, Bool.true_and]
    exact decide_eq_true (by have := q.2; omega)
  unfold eqD
  split
  · exact (h _ rfl).elim
  · exact (h' _ rfl).elim
  · exact (h'' _ rfl).elim
  · rw [e hx, e hy]; rfl
theorem q_eqS {x y : D} (hx : Shp x) (hy : Shp y) (h : ∀ i, x ≠ .int i) (h' : ∀ i, x ≠ .str i) (h'' : ∀ i, x ≠ .bl i) : cmpD .Eq x y = some (PyData.eqv (toPy x) (toPy y)) := eqD_shp hx hy h h' h''
theorem q_neS {x y : D} (hx : Shp x) (hy : Shp y) (h : ∀ i, x ≠ .int i) (h' : ∀ i, x ≠ .str i) (h'' : ∀ i, x ≠ .bl i) : cmpD .NotEq x y = some (!PyData.eqv (toPy x) (toPy y)) := by
  show (eqD x y).map (!·) = _
  rw [eqD_shp hx hy h h' h'']
  rfl
theorem shp_mk {p : Mk} : Shp p.d := by
  obtain ⟨g, w, m⟩ := p
  cases w <;> exact ⟨by kernel_rfl, by show (1 : Nat) ≤ 60; decide⟩
theorem eqv_mk {p q : Mk} : PyData.eqv (toPy p.d) (toPy q.d) = decide (p = q) := by
  obtain ⟨g, w, m⟩ := p
  obtain ⟨g', w', m'⟩ := q
  show (g == g' && (wS w == wS w' && (m == m' && true))) = _
  rw [Bool.eq_iff_iff]
  simp only [Bool.and_eq_true, beq_iff_eq, decide_eq_true_eq, Mk.mk.injEq, and_true, wS_ne]
theorem q_nem {p q : Mk} : cmpD .NotEq p.d q.d = some (!decide (p = q)) := by
  rw [q_neS shp_mk shp_mk (fun _ h => by cases h) (fun _ h => by cases h) (fun _ h => by cases h), eqv_mk]
theorem q_eqm {p q : Mk} : cmpD .Eq p.d q.d = some (decide (p = q)) := by
  rw [q_eqS shp_mk shp_mk (fun _ h => by cases h) (fun _ h => by cases h) (fun _ h => by cases h), eqv_mk]
theorem shp_gw {g : Int} {w : Bool} : Shp (.tup [.int g, .str (wS w)]) := by
  cases w <;> exact ⟨by kernel_rfl, by show (1 : Nat) ≤ 60; decide⟩
theorem q_eqgw {g g' : Int} {w w' : Bool} : cmpD .Eq (.tup [.int g, .str (wS w)]) (.tup [.int g', .str (wS w')]) = some (decide (g = g') && decide (w = w')) := by
  rw [q_eqS shp_gw shp_gw (fun _ h => by cases h) (fun _ h => by cases h) (fun _ h => by cases h)]
  congr 1
  show (g == g' && (wS w == wS w' && true)) = _
  rw [Bool.eq_iff_iff]
  simp only [Bool.and_eq_true, beq_iff_eq, decide_eq_true_eq, and_true, wS_ne]
def Mk.lt (p q : Mk) : Bool := if p.g = q.g then if p.w = q.w then decide (p.m < q.m) else p.w else decide (p.g < q.g)
theorem q_ltm {p q : Mk} : cmpD .Lt p.d q.d = some (p.lt q) := by
  obtain ⟨g, w, m⟩ := p
  obtain ⟨g', w', m'⟩ := q
  show (if kinds [.int g, .str (wS w), .int m] [.int g', .str (wS w'), .int m'] then some (ltL [.int g, .str (wS w), .int m] [.int g', .str (wS w'), .int m']) else none) = _
  rw [if_pos (show kinds [.int g, .str (wS w), .int m] [.int g', .str (wS w'), .int m'] = true from rfl)]
  congr 1
  show (if g = g' then (if wS w = wS w' then (if m = m' then false else decide (m < m')) else decide ((wS w).cps.toList < (wS w').cps.toList)) else decide (g < g')) = _
  unfold Mk.lt
  simp only [wS_ne]
  by_cases h : g = g'
  · rw [if_pos h, if_pos h]
    by_cases h2 : w = w'
    · rw [if_pos h2, if_pos h2]
      by_cases h3 : m = m'
      · rw [if_pos h3]; subst h3; simp
      · rw [if_neg h3]
    · rw [if_neg h2, if_neg h2]
      cases w <;> cases w' <;> first | exact absurd rfl h2 | decide +kernel
  · rw [if_neg h, if_neg h]
theorem in2 {a g h : Int} : cmpD .In (.int a) (.tup [.int g, .int h]) = some (decide (g = a) || decide (h = a)) := by
  show (inD (.int a) (.tup [.int g, .int h])) = _
  show some (inV (.int a) [.int g, .int h]) = _
  congr 1
  unfold inV
  simp [eqV]
  rw [Bool.eq_iff_iff]
  simp
theorem notIn2 {a g h : Int} : cmpD .NotIn (.int a) (.tup [.int g, .int h]) = some (!(decide (g = a) || decide (h = a))) := by
  show (cmpD .In (.int a) (.tup [.int g, .int h])).map (!·) = _
  rw [in2]
  rfl

theorem toPys_map {α : Type} (f : α → D) (l : List α) : toPys (l.map f) = l.map fun x => toPy (f x) := by
  induction l with
  | nil => rfl
  | cons a l ih => show toPy (f a) :: toPys (l.map f) = _; rw [ih]; rfl
def ShpN (n : Nat) (d : D) : Prop := (toPy d).canLay0 = true ∧ (toPy d).depth ≤ n
theorem shpN_all {n : Nat} : ∀ {l : List D}, (∀ d ∈ l, ShpN n d) → PyData.canLayAll0 (toPys l) = true ∧ PyData.depthAll (toPys l) ≤ n
  | [], _ => ⟨rfl, Nat.zero_le _⟩
  | d :: l, h => by
    obtain ⟨a, b⟩ := h d List.mem_cons_self
    obtain ⟨c, e⟩ := shpN_all fun x hx => h x (List.mem_cons_of_mem d hx)
    refine ⟨?_, ?_⟩
    · show ((toPy d).canLay0 && PyData.canLayAll0 (toPys l)) = true
      rw [a, c]; rfl
    · show max (toPy d).depth (PyData.depthAll (toPys l)) ≤ n
      omega
theorem shpN_lst {n : Nat} {l : List D} (h : ∀ d ∈ l, ShpN n d) : ShpN (n + 1) (.lst l) := ⟨(shpN_all h).1, Nat.succ_le_succ (shpN_all h).2⟩
theorem shpN_tup {n : Nat} {l : List D} (h : ∀ d ∈ l, ShpN n d) : ShpN (n + 1) (.tup l) := ⟨(shpN_all h).1, Nat.succ_le_succ (shpN_all h).2⟩
theorem ShpN.shp {n : Nat} {d : D} (h : ShpN n d) (hn : n ≤ 60) : Shp d := ⟨h.1, Nat.le_trans h.2 hn⟩
theorem shpN_mk {p : Mk} : ShpN 1 p.d := by
  obtain ⟨g, w, m⟩ := p
  cases w <;> exact ⟨by kernel_rfl, by show (1 : Nat) ≤ 1; decide⟩
theorem q_neNil {l : List D} (h : Shp (.lst l)) : cmpD .NotEq (.lst l) (.lst []) = some (!l.isEmpty) := by
  rw [q_neS h ⟨rfl, by show (1 : Nat) ≤ 60; decide⟩ (fun _ h => by cases h) (fun _ h => by cases h) (fun _ h => by cases h)]
  cases l <;> rfl
theorem q_eqNil {l : List D} (h : Shp (.lst l)) : cmpD .Eq (.lst l) (.lst []) = some (l.isEmpty) := by
  rw [q_eqS h ⟨rfl, by show (1 : Nat) ≤ 60; decide⟩ (fun _ h => by cases h) (fun _ h => by cases h) (fun _ h => by cases h)]
  cases l <;> rfl
section
variable {Φ : PhiN} {n i : Nat} {el tc : CE}
/-- a comprehension with a test -/
theorem lcT_filter {α : Type} {f : α → D} {g : α → D} {p : α → Bool} {ρ : Rho} (h0 : ρ[i]? = some none) : ∀ {xs : List α}, (∀ x ∈ xs, EvB Φ n tc (ρ.set i (some (.imm (f x)))) (p x) (ρ.set i (some (.imm (f x))))) →
    (∀ x ∈ xs, p x = true → EvD Φ n el (ρ.set i (some (.imm (f x)))) (g x) (ρ.set i (some (.imm (f x))))) → lcTurns (tsC (fun c ρ => bF (evC Φ n c ρ)) [tc]) (evC Φ n el) i (xs.map f) ρ = some ((xs.filter p).map g, ρ)
  | [], _, _ => rfl
  | x :: r, ht, he => by
    have e1 : bF (evC Φ n tc (ρ.set i (some (.imm (f x))))) = some (p x, ρ.set i (some (.imm (f x)))) := (ht x List.mem_cons_self).is
    have ih := lcT_filter h0 (xs := r) (fun y hy => ht y (List.mem_cons_of_mem _ hy)) (fun y hy => he y (List.mem_cons_of_mem _ hy))
    show lcTurns _ _ i (f x :: r.map f) ρ = _
    unfold lcTurns
    show (bF (evC Φ n tc (ρ.set i (some (.imm (f x)))))).bind _ = _
    rw [e1]
    show (if p x then _ else _) = _
    cases hp : p x with
    | true =>
      rw [if_pos rfl, (he x List.mem_cons_self hp).is]
      show (lcTurns _ _ i (r.map f) ((ρ.set i (some (.imm (f x)))).set i none)).bind _ = _
      rw [set_back h0, ih, List.filter_cons_of_pos hp]
      rfl
    | false =>
      rw [if_neg (by simp)]
      show lcTurns _ _ i (r.map f) ((ρ.set i (some (.imm (f x)))).set i none) = _
      rw [set_back h0, ih, List.filter_cons_of_neg (by simp [hp])]
theorem lcC_filter {α : Type} {f : α → D} {g : α → D} {p : α → Bool} {ρ : Rho} {xs : List α} (h0 : ρ[i]? = some none) (hl : xs.length ≤ line) (ht : ∀ x ∈ xs, EvB Φ n tc (ρ.set i (some (.imm (f x)))) (p x) (ρ.set i (some (.imm (f x)))))
    (he : ∀ x ∈ xs, p x = true → EvD Φ n el (ρ.set i (some (.imm (f x)))) (g x) (ρ.set i (some (.imm (f x))))) : lcC (xs.map f) ρ i (tsC (fun c ρ => bF (evC Φ n c ρ)) [tc]) (evC Φ n el) = some (.cel ((xs.filter p).map g), ρ) := by
  have := lcC_is h0 (lcT_filter h0 ht he) (by rw [List.length_map]; exact Nat.le_trans (List.length_filter_le _ _) hl)
  rw [this]
  have := set_back (x := none) h0
  rw [List.set_set] at this
  rw [this]
end
theorem f_intB {d : D} {k : Bool} (h : d = .bl k) : bcall1 (BI.str .int) d = some (.imm (.int (if k then 1 else 0))) := by subst h; rfl
/-! ## Readings with one number another -/
def setN (s : List Int) (g v : Int) : List Int := s.take g.toNat ++ [v] ++ s.drop (g.toNat + 1)
theorem cutA {s : List Int} {n g : Int} (hg : Ga n g) (hl : (s.length : Int) = n) : slD (dI s) none (some g) = some (.imm (.tup ((s.take g.toNat).map D.int))) := by
  obtain ⟨h0, h1⟩ := hg
  obtain ⟨j, rfl⟩ := Int.eq_ofNat_of_zero_le h0
  show some (En.imm (.tup (cutL (s.map D.int) none (some (j : Int))))) = _
  unfold cutL
  rw [HT.sIx_none, HT.sIx_nat, List.length_map, Nat.min_eq_left (by omega)]
  simp
theorem cutB {s : List Int} {n g : Int} (hg : Ga n g) (hl : (s.length : Int) = n) : slD (dI s) (some (g + 1)) none = some (.imm (.tup ((s.drop (g.toNat + 1)).map D.int))) := by
  obtain ⟨h0, h1⟩ := hg
  obtain ⟨j, rfl⟩ := Int.eq_ofNat_of_zero_le h0
  show some (En.imm (.tup (cutL (s.map D.int) (some ((j : Int) + 1)) none))) = _
  unfold cutL
  rw [HT.sIx_none, show ((j : Int) + 1) = ((j + 1 : Nat) : Int) by omega, HT.sIx_nat, List.length_map, Nat.min_eq_left (by omega)]
  rw [List.take_of_length_le (by simp), List.map_drop]
  simp
theorem setN_len {s : List Int} {n g v : Int} (hg : Ga n g) (hl : (s.length : Int) = n) : (setN s g v).length = s.length := by
  obtain ⟨h0, h1⟩ := hg
  unfold setN
  simp
  omega
theorem setN_eq {s : List Int} {n g v : Int} (hg : Ga n g) (hl : (s.length : Int) = n) : setN s g v = s.set g.toNat v := by
  obtain ⟨h0, h1⟩ := hg
  unfold setN
  rw [List.set_eq_take_append_cons_drop, if_pos (by omega)]
  simp
theorem see_same {s : List Int} {n g v : Int} (hg : Ga n g) (hl : (s.length : Int) = n) : seeN (setN s g v) g = v := by
  rw [setN_eq hg hl]
  obtain ⟨h0, h1⟩ := hg
  unfold seeN
  rw [List.getD_eq_getElem?_getD, List.getElem?_set_self (by omega)]
  rfl
theorem see_other {s : List Int} {n g h v : Int} (hg : Ga n g) (hh : Ga n h) (hl : (s.length : Int) = n) (q : g ≠ h) : seeN (setN s g v) h = seeN s h := by
  rw [setN_eq hg hl]
  obtain ⟨h0, h1⟩ := hg
  obtain ⟨h2, h3⟩ := hh
  unfold seeN
  rw [List.getD_eq_getElem?_getD, List.getElem?_set_ne (by omega), List.getD_eq_getElem?_getD]

/-! ## Following -/
def Mk.op (p q : Mk) : Bool := decide (p.g = q.g) && (!decide (p.w = q.w) && (if p.w then decide (q.m < p.m) else decide (p.m < q.m)))
def Mk.con (p : Mk) : Mk := ⟨p.g, !p.w, if p.w then p.m - 1 else p.m + 1⟩
def fcE (lo hi b : Mk) : List Mk := (if b.op hi then [lo] else []) ++ (if !decide (lo = hi) && b.op lo then [hi] else [])
def Ru.fc : Ru → Mk → List Mk
  | .bd _, _ => []
  | .ap g h k, p => if p.g = g ∧ p.w = true then [⟨h, true, p.m - k⟩] else if p.g = h ∧ p.w = false then [⟨g, false, p.m + k⟩] else []
  | .sm g h w k, p => if p.w = w ∨ ¬(g = p.g ∨ h = p.g) then [] else [⟨if p.g = g then h else g, w, k - p.m⟩]
  | .ei p q, b => if p.lt q then fcE p q b else fcE q p b
def dMs (l : List Mk) : List D := l.map Mk.d
/-- what a bound says of a number -/
def Mk.sat (p : Mk) (v : Int) : Bool := if p.w then decide (p.m ≤ v) else decide (v ≤ p.m)
theorem hd_sat {p : Mk} {s : List Int} : p.hd s = p.sat (seeN s p.g) := rfl
theorem op_iff {p q : Mk} : p.op q = true ↔ p.g = q.g ∧ p.w ≠ q.w ∧ ∀ v, p.sat v = true → q.sat v = false := by
  obtain ⟨g, w, m⟩ := p
  obtain ⟨g', w', m'⟩ := q
  cases w <;> cases w' <;> simp [Mk.op, Mk.sat]
  · intro _
    constructor
    · intro h v hv; omega
    · intro h; have := h m (by omega); omega
  · intro _
    constructor
    · intro h v hv; omega
    · intro h; have := h m (by omega); omega
theorem con_sat {p : Mk} {v : Int} : p.con.sat v = !p.sat v := by
  obtain ⟨g, w, m⟩ := p
  cases w <;> simp [Mk.con, Mk.sat] <;> rw [Bool.eq_iff_iff] <;> simp <;> omega
theorem con_con {p : Mk} : p.con.con = p := by
  obtain ⟨g, w, m⟩ := p
  cases w <;> simp [Mk.con] <;> omega
theorem fcE_mem {lo hi b c : Mk} : c ∈ fcE lo hi b → (c = lo ∧ b.op hi = true) ∨ (c = hi ∧ b.op lo = true) := by
  unfold fcE
  intro h
  rcases List.mem_append.mp h with h | h
  · split at h
    · rename_i q; exact .inl ⟨List.mem_singleton.mp h, q⟩
    · cases h
  · split at h
    · rename_i q; exact .inr ⟨List.mem_singleton.mp h, (Bool.and_eq_true_iff.mp q).2⟩
    · cases h
theorem fcE_lo {lo hi b : Mk} (h : b.op hi = true) : lo ∈ fcE lo hi b := by
  unfold fcE
  rw [if_pos h]
  simp
theorem fcE_hi {lo hi b : Mk} (h : b.op lo = true) : hi ∈ fcE lo hi b := by
  by_cases e : lo = hi
  · subst e
    exact fcE_lo h
  · unfold fcE
    rw [if_pos (show (!decide (lo = hi) && b.op lo) = true by simp [e, h])]
    simp
theorem fc_ei {p q b c : Mk} : c ∈ Ru.fc (.ei p q) b ↔ (c = p ∧ b.op q = true) ∨ (c = q ∧ b.op p = true) := by
  show c ∈ (if p.lt q then fcE p q b else fcE q p b) ↔ _
  split
  · refine ⟨fcE_mem, fun h => ?_⟩
    rcases h with ⟨rfl, h⟩ | ⟨rfl, h⟩
    · exact fcE_lo h
    · exact fcE_hi h
  · refine ⟨fun h => (fcE_mem h).symm, fun h => ?_⟩
    rcases h with ⟨rfl, h⟩ | ⟨rfl, h⟩
    · exact fcE_hi h
    · exact fcE_lo h
/-- what is forced holds -/
theorem fc_sound {r : Ru} {p c : Mk} {s : List Int} (h : c ∈ r.fc p) (hr : r.hd s = true) (hp : p.hd s = true) : c.hd s = true := by
  cases r with
  | bd _ => cases h
  | ap g h' k =>
    simp only [Ru.fc] at h
    simp only [Ru.hd, decide_eq_true_eq] at hr
    split at h
    · rename_i q
      cases List.mem_singleton.mp h
      simp [Mk.hd, q.2] at hp ⊢
      rw [q.1] at hp
      omega
    · split at h
      · rename_i _ q
        cases List.mem_singleton.mp h
        simp [Mk.hd, q.2] at hp ⊢
        rw [q.1] at hp
        omega
      · cases h
  | sm g h' w k =>
    simp only [Ru.fc] at h
    split at h
    · cases h
    · rename_i q
      have q1 : p.w ≠ w := fun z => q (.inl z)
      have q2 : g = p.g ∨ h' = p.g := by
        by_cases z : g = p.g ∨ h' = p.g
        · exact z
        · exact (q (.inr z)).elim
      cases List.mem_singleton.mp h
      have hw : p.w = !w := by cases w <;> cases e : p.w <;> simp_all
      simp only [Mk.hd, hw] at hp ⊢
      simp only [Ru.hd] at hr
      by_cases e : p.g = g
      · rw [if_pos e]
        rw [e] at hp
        cases w <;> simp at hp hr ⊢ <;> omega
      · have e' : h' = p.g := by
          rcases q2 with z | z
          · exact (e z.symm).elim
          · exact z
        rw [if_neg e]
        rw [← e'] at hp
        cases w <;> simp at hp hr ⊢ <;> omega
  | ei a b =>
    have hr : a.hd s = true ∨ b.hd s = true := by
      simp only [Ru.hd, Bool.or_eq_true] at hr
      exact hr
    rcases fc_ei.mp h with ⟨rfl, o⟩ | ⟨rfl, o⟩
    · obtain ⟨e1, _, e3⟩ := op_iff.mp o
      rcases hr with z | z
      · exact z
      · rw [hd_sat] at hp z
        rw [e1] at hp
        rw [e3 _ hp] at z
        cases z
    · obtain ⟨e1, _, e3⟩ := op_iff.mp o
      rcases hr with z | z
      · rw [hd_sat] at hp z
        rw [e1] at hp
        rw [e3 _ hp] at z
        cases z
      · exact z
theorem fc_ok {r : Ru} {p c : Mk} {n : Int} (h : c ∈ r.fc p) (hr : r.ok n) : Ga n c.g := by
  cases r with
  | bd _ => cases h
  | ap g h' k =>
    simp only [Ru.fc] at h
    split at h
    · cases List.mem_singleton.mp h; exact hr.2.1
    · split at h
      · cases List.mem_singleton.mp h; exact hr.1
      · cases h
  | sm g h' w k =>
    simp only [Ru.fc] at h
    split at h
    · cases h
    · cases List.mem_singleton.mp h
      show Ga n (if p.g = g then h' else g)
      split
      · exact hr.2.1
      · exact hr.1
  | ei a b =>
    rcases fc_ei.mp h with ⟨rfl, o⟩ | ⟨rfl, o⟩
    · exact hr.1
    · exact hr.2
end Mx
namespace Mx
open PySem L2
theorem nAE' : decide (("apart" : Str) = "either") = false := by decide +kernel
theorem nSE' : decide (("sum" : Str) = "either") = false := by decide +kernel
theorem for_cons {Φ : PhiN} {np n y : Nat} {body : List CS} {x : D} {r : List D} {ρ ρ1 : Rho} {q : Option (Out × Rho)} (hy : ¬ y < np) (h : Bk Φ np n body (ρ.set y (some (.imm x))) .nx ρ1) (h' : forTurns (stC np y) (blockC (evCS Φ np n) body) r ρ1 = q) :
    forTurns (stC np y) (blockC (evCS Φ np n) body) (x :: r) ρ = q := by
  have e : stC np y x ρ = some (ρ.set y (some (.imm x))) := by
    unfold stC
    rw [if_neg (by simp [hy])]
  rw [forTurns]
  rw [e]
  show (blockC (evCS Φ np n) body (ρ.set y (some (.imm x)))).bind _ = _
  rw [h.is]
  exact h'
/-- a loop over what is in a list, by what holds at each turn -/
theorem for_all {Φ : PhiN} {np n y : Nat} {body : List CS} (I : Rho → Prop) (hy : ¬ y < np) : ∀ {items : List D} {ρ : Rho}, (∀ x ∈ items, ∀ ρ, I ρ → ∃ ρ', Bk Φ np n body (ρ.set y (some (.imm x))) .nx ρ' ∧ I ρ') → I ρ →
    ∃ ρ', forTurns (stC np y) (blockC (evCS Φ np n) body) items ρ = some (.nx, ρ') ∧ I ρ'
  | [], ρ, _, h => ⟨ρ, rfl, h⟩
  | x :: r, ρ, hb, h => by
    obtain ⟨ρ1, a, b⟩ := hb x List.mem_cons_self ρ h
    obtain ⟨ρ2, c, d⟩ := for_all I hy (items := r) (fun x hx => hb x (List.mem_cons_of_mem _ hx)) b
    exact ⟨ρ2, for_cons hy a c, d⟩
theorem for_cnt {Φ : PhiN} {np n y : Nat} {body : List CS} (I : Nat → Rho → Prop) (hy : ¬ y < np) : ∀ {items : List D} {ρ : Rho}, (∀ x ∈ items, ∀ m ρ, m < items.length → I (m + 1) ρ → ∃ ρ', Bk Φ np n body (ρ.set y (some (.imm x))) .nx ρ' ∧ I m ρ') → I items.length ρ →
    ∃ ρ', forTurns (stC np y) (blockC (evCS Φ np n) body) items ρ = some (.nx, ρ') ∧ I 0 ρ'
  | [], ρ, _, h => ⟨ρ, rfl, h⟩
  | x :: r, ρ, hb, h => by
    obtain ⟨ρ1, a, b⟩ := hb x List.mem_cons_self r.length ρ (by simp) h
    obtain ⟨ρ2, c, d⟩ := for_cnt I hy (items := r) (fun x hx m ρ hm => hb x (List.mem_cons_of_mem _ hx) m ρ (by simp; omega)) b
    exact ⟨ρ2, for_cons hy a c, d⟩
theorem f_intB2 {d : D} {k k' : Bool} (h : d = .bl k) (e : k = k') : bcall1 (BI.str .int) d = some (.imm (.int (if k' then 1 else 0))) := by subst h e; rfl
end Mx
set_option maxHeartbeats 400000
namespace Mx
open PySem L2
/-! ## What repr needs, by the parts -/
structure Sz (n dp : Nat) (d : D) : Prop where
  sh : (toPy d).showable = true
  nd : (toPy d).hasDict = false
  dp : (toPy d).depth ≤ dp
  ln : (toPy d).shown.length ≤ n
theorem Sz.ro {n dp : Nat} {d : D} (h : Sz n dp d) (hn : n ≤ line) (hd : dp ≤ 100) : RO d := by
  unfold RO
  rw [h.sh, h.nd, decide_eq_true (Nat.le_trans h.dp hd), decide_eq_true (Nat.le_trans h.ln hn)]
  rfl
theorem Sz.up {n n' dp dp' : Nat} {d : D} (h : Sz n dp d) (hn : n ≤ n') (hd : dp ≤ dp') : Sz n' dp' d := ⟨h.sh, h.nd, Nat.le_trans h.dp hd, Nat.le_trans h.ln hn⟩
theorem sz_int {i : Int} (h : i.natAbs < 2 ^ 200) : Sz 1921 0 (.int i) := by
  have h2 : i.natAbs.log2 < 1920 := by
    by_cases h0 : i.natAbs = 0
    · rw [h0]
      decide
    · have := (Nat.log2_lt (k := 200) h0).mpr h
      omega
  exact ⟨decide_eq_true h2, rfl, Nat.le_refl _, PyProof.Rows.int_text_len_1921 h2⟩
theorem sz_i {i : Int} (h : -1000000000000000000 ≤ i ∧ i ≤ 1000000000000000000) : Sz 1921 0 (.int i) := sz_int (Nat.lt_of_le_of_lt (show i.natAbs ≤ 1000000000000000000 by omega) (by decide))
theorem sz_bl {b : Bool} : Sz 10 0 (.bl b) := by cases b <;> exact ⟨rfl, rfl, Nat.le_refl _, by decide +kernel⟩
theorem sz_non : Sz 10 0 .non := ⟨rfl, rfl, Nat.le_refl _, by decide +kernel⟩
theorem sz_str {x : Str} (h : x.length ≤ 20) (h' : (reprText x).length ≤ 1921) : Sz 1921 0 (.str x) := ⟨rfl, rfl, Nat.le_refl _, h'⟩
theorem sz_wS {b : Bool} : Sz 1921 0 (.str (wS b)) := by
  cases b
  · exact ⟨rfl, rfl, Nat.le_refl _, Nat.le_trans (StrLaws.reprText_len "most" (by decide +kernel)) (by decide +kernel)⟩
  · exact ⟨rfl, rfl, Nat.le_refl _, Nat.le_trans (StrLaws.reprText_len "least" (by decide +kernel)) (by decide +kernel)⟩
theorem join_le {n : Nat} : ∀ {ts : List Str}, (∀ t ∈ ts, t.length ≤ n) → ((Str.ofString ", ").join ts).length ≤ ts.length * (n + 2)
  | [], _ => Nat.le_trans (show ((Str.ofString ", ").join []).length ≤ 0 by decide) (Nat.zero_le _)
  | [t], h => by
    have := h t List.mem_cons_self
    simp [Str.join]
    omega
  | t :: u :: r, h => by
    have h1 := h t List.mem_cons_self
    have h2 := join_le (ts := u :: r) fun x hx => h x (List.mem_cons_of_mem _ hx)
    have c : (Str.ofString ", ").length = 2 := by decide
    simp only [Str.join, strLen_append, List.length_cons] at h2 ⊢
    rw [c]
    rw [show (r.length + 1 + 1) * (n + 2) = (r.length + 1) * (n + 2) + (n + 2) by rw [Nat.add_mul, Nat.one_mul]]
    omega
theorem text_le {n : Nat} : ∀ {ts : List Str} {k : Nat} {acc : Str}, (∀ t ∈ ts, t.length ≤ n) → (textFrom k acc ts).length ≤ acc.length + ts.length * (n + 2)
  | [], k, acc, _ => by show acc.length ≤ _; omega
  | t :: r, k, acc, h => by
    have h1 := h t List.mem_cons_self
    have c : (Str.ofString ", ").length = 2 := by decide
    have c0 : (Str.ofString "").length = 0 := by decide
    rw [List.length_cons, show (r.length + 1) * (n + 2) = r.length * (n + 2) + (n + 2) by rw [Nat.add_mul, Nat.one_mul]]
    unfold textFrom
    refine Nat.le_trans (text_le (n := n) fun x hx => h x (List.mem_cons_of_mem _ hx)) ?_
    split <;> (simp only [strLen_append]; omega)
theorem sz_all {n dp : Nat} : ∀ {l : List D}, (∀ d ∈ l, Sz n dp d) → PyData.showableAll (toPys l) = true ∧ PyData.hasDictAll (toPys l) = false ∧ PyData.depthAll (toPys l) ≤ dp ∧ (∀ t ∈ PyData.shownAll (toPys l), t.length ≤ n) ∧ (PyData.shownAll (toPys l)).length = l.length
  | [], _ => ⟨rfl, rfl, Nat.zero_le _, fun t h => (nomatch h), rfl⟩
  | d :: l, h => by
    have hd := h d List.mem_cons_self
    obtain ⟨a, b, c, e, f⟩ := sz_all fun x hx => h x (List.mem_cons_of_mem d hx)
    refine ⟨?_, ?_, ?_, ?_, ?_⟩
    · show ((toPy d).showable && PyData.showableAll (toPys l)) = true
      rw [hd.sh, a]; rfl
    · show ((toPy d).hasDict || PyData.hasDictAll (toPys l)) = false
      rw [hd.nd, b]; rfl
    · show max (toPy d).depth (PyData.depthAll (toPys l)) ≤ dp
      have := hd.dp
      omega
    · intro t ht
      have ht : t ∈ (toPy d).shown :: PyData.shownAll (toPys l) := ht
      rcases List.mem_cons.mp ht with rfl | ht
      · exact hd.ln
      · exact e t ht
    · show (PyData.shownAll (toPys l)).length + 1 = l.length + 1
      rw [f]
theorem sz_lst {n dp : Nat} {l : List D} (h : ∀ d ∈ l, Sz n dp d) : Sz (l.length * (n + 2) + 4) (dp + 1) (.lst l) := by
  obtain ⟨a, b, c, e, f⟩ := sz_all h
  refine ⟨a, b, Nat.succ_le_succ c, ?_⟩
  show (listText (PyData.shownAll (toPys l))).length ≤ _
  have j := text_le (k := 0) (acc := Str.ofString "[") e
  rw [f] at j
  simp only [listText, strLen_append]
  have x1 : (Str.ofString "[").length = 1 := by decide
  have x2 : (Str.ofString "]").length = 1 := by decide
  omega
theorem sz_tup {n dp : Nat} {l : List D} (h : ∀ d ∈ l, Sz n dp d) : Sz (l.length * (n + 2) + 4) (dp + 1) (.tup l) := by
  obtain ⟨a, b, c, e, f⟩ := sz_all h
  refine ⟨a, b, Nat.succ_le_succ c, ?_⟩
  show (tupleText (PyData.shownAll (toPys l))).length ≤ _
  have j := join_le e
  rw [f] at j
  simp only [tupleText, strLen_append]
  have x1 : (Str.ofString "(").length = 1 := by decide
  have x2 : (Str.ofString (if ((PyData.shownAll (toPys l)).length == 1) = true then ",)" else ")")).length ≤ 2 := by
    split <;> decide
  omega
theorem ro_ints {l : List Int} (h : ∀ i ∈ l, -1000000000000000000 ≤ i ∧ i ≤ 1000000000000000000) (hl : l.length ≤ 1000) : RO (.lst (l.map D.int)) :=
  Sz.ro (sz_lst (n := 1921) (dp := 0) (by
    intro d hd
    obtain ⟨i, hi, rfl⟩ := List.mem_map.mp hd
    exact sz_i (h i hi))) (by
    rw [List.length_map]
    exact Nat.le_trans (show l.length * (1921 + 2) + 4 ≤ 1000 * 1923 + 4 by omega) (by decide)) (by decide)
/-! ## Items with their indexes -/
def enl {α : Type} : Nat → List α → List (Nat × α)
  | _, [] => []
  | k, x :: l => (k, x) :: enl (k + 1) l
theorem enuF_map {α : Type} (f : α → D) : ∀ (l : List α) (k : Nat), enuF k (l.map f) = (enl k l).map fun p => .tup [.int (p.1 : Nat), f p.2]
  | [], _ => rfl
  | x :: l, k => by
    show D.tup [.int (k : Nat), f x] :: enuF (k + 1) (l.map f) = _
    rw [enuF_map f l]
    rfl
theorem enl_range {α : Type} (a0 : α) : ∀ (l : List α) (k : Nat), enl k l = (List.range l.length).map fun j => (k + j, l.getD j a0)
  | [], _ => rfl
  | x :: l, k => by
    show (k, x) :: enl (k + 1) l = _
    rw [enl_range a0 l (k + 1), List.length_cons, List.range_succ_eq_map, List.map_cons, List.map_map]
    congr 1
    apply List.map_congr_left
    intro j _
    show (k + 1 + j, l.getD j a0) = (k + (j + 1), (x :: l).getD (j + 1) a0)
    rw [show k + 1 + j = k + (j + 1) by omega, List.getD_cons_succ]
section
variable {Φ : PhiN} {n : Nat} {el tc : CE} {is : List Nat}
theorem lcTG_filter {α : Type} {f : α → D} {g : α → D} {p : α → Bool} {ρ : Rho} {ρx : α → Rho} : ∀ {xs : List α}, (∀ x ∈ xs, stTup is (f x) ρ = some (ρx x) ∧ wipeR (ρx x) is = ρ) → (∀ x ∈ xs, EvB Φ n tc (ρx x) (p x) (ρx x)) →
    (∀ x ∈ xs, p x = true → EvD Φ n el (ρx x) (g x) (ρx x)) → lcTurnsG (stTup is) is (tsC (fun c ρ => bF (evC Φ n c ρ)) [tc]) (evC Φ n el) (xs.map f) ρ = some ((xs.filter p).map g, ρ)
  | [], _, _, _ => rfl
  | x :: r, hs, ht, he => by
    obtain ⟨s1, s2⟩ := hs x List.mem_cons_self
    have e1 : bF (evC Φ n tc (ρx x)) = some (p x, ρx x) := (ht x List.mem_cons_self).is
    have ih := lcTG_filter (xs := r) (fun y hy => hs y (List.mem_cons_of_mem _ hy)) (fun y hy => ht y (List.mem_cons_of_mem _ hy)) (fun y hy => he y (List.mem_cons_of_mem _ hy))
    show lcTurnsG _ is _ _ (f x :: r.map f) ρ = _
    unfold lcTurnsG
    rw [s1]
    show (bF (evC Φ n tc (ρx x))).bind _ = _
    rw [e1]
    show (if p x then _ else _) = _
    cases hp : p x with
    | true =>
      rw [if_pos rfl, (he x List.mem_cons_self hp).is]
      show (lcTurnsG _ is _ _ (r.map f) (wipeR (ρx x) is)).bind _ = _
      rw [s2, ih, List.filter_cons_of_pos hp]
      rfl
    | false =>
      rw [if_neg (by simp)]
      show lcTurnsG _ is _ _ (r.map f) (wipeR (ρx x) is) = _
      rw [s2, ih, List.filter_cons_of_neg (by simp [hp])]
theorem lcCT_filter {α : Type} {f : α → D} {g : α → D} {p : α → Bool} {ρ : Rho} {ρx : α → Rho} {xs : List α} (h0 : is.all (fun i => match ρ[i]? with | some none => true | _ => false) = true) (hl : xs.length ≤ line)
    (hs : ∀ x ∈ xs, stTup is (f x) ρ = some (ρx x) ∧ wipeR (ρx x) is = ρ) (ht : ∀ x ∈ xs, EvB Φ n tc (ρx x) (p x) (ρx x)) (he : ∀ x ∈ xs, p x = true → EvD Φ n el (ρx x) (g x) (ρx x)) :
    lcCT (xs.map f) ρ is (tsC (fun c ρ => bF (evC Φ n c ρ)) [tc]) (evC Φ n el) = some (.cel ((xs.filter p).map g), ρ) := by
  unfold lcCT
  refine (if_pos h0).trans ?_
  rw [lcTG_filter hs ht he]
  exact if_pos (by rw [List.length_map]; exact Nat.le_trans (List.length_filter_le _ _) hl)
end
/-! ## Rows drawn beside each other -/
theorem rules_of {P : Int → Ru → Prop} : ∀ {sl : List Int} {ys : List D}, All2 (fun x y => ∃ a r, x = D.int a ∧ y = Ru.d r ∧ P a r) (sl.map D.int) ys → ∃ rs, ys = rs.map Ru.d ∧ All2 P sl rs
  | [], _, .nil => ⟨[], rfl, .nil⟩
  | a :: sl, _, .cons ⟨b, r, e1, e2, p⟩ h => by
    obtain ⟨rs, e, q⟩ := rules_of (sl := sl) h
    cases e1
    exact ⟨r :: rs, by rw [e2, e]; rfl, .cons p q⟩
theorem All2.at {α β : Type} {P : α → β → Prop} {a0 : α} {b0 : β} : ∀ {l : List α} {m : List β} {j : Nat}, All2 P l m → j < l.length → P (l.getD j a0) (m.getD j b0)
  | _, _, 0, .cons p _, _ => by simpa using p
  | _, _, j + 1, .cons _ h, hj => by
    have := All2.at (a0 := a0) (b0 := b0) (j := j) h (by simpa using hj)
    simpa using this
end Mx
set_option maxHeartbeats 400000
namespace Mx
open PySem L2
theorem b_rl {d1 d2 : D} {l : List D} {m : Int} (h1 : d1 = .lst l) (h2 : d2 = .int m) (h : -(2 ^ 63) ≤ m ∧ m < 2 ^ 63 ∧ l.length * m.toNat ≤ line) : binD .Mult d1 d2 = some (.cel (List.replicate m.toNat l).flatten) := by subst h1 h2; exact if_pos h
/-! ## Middles -/
def med (a b c : Int) : Int := if a < b then (if c < a then a else if b < c then b else c) else (if c < b then b else if a < c then a else c)
theorem med_ba (a b c : Int) : med b a c = med a b c := by unfold med; split <;> split <;> (repeat' split) <;> omega
theorem med_cb (a b c : Int) : med a c b = med a b c := by unfold med; (repeat' split) <;> omega
theorem med_aba (a b : Int) : med a b a = a := by unfold med; (repeat' split) <;> omega
theorem med_in {a hi lo : Int} (h : lo ≤ a ∧ a ≤ hi) : med a hi lo = a := by unfold med; (repeat' split) <;> omega
theorem med_le {x a b c : Int} : med a b c ≤ x ↔ (a ≤ x ∧ b ≤ x) ∨ (a ≤ x ∧ c ≤ x) ∨ (b ≤ x ∧ c ≤ x) := by unfold med; (repeat' split) <;> omega
theorem med_ge {x a b c : Int} : x ≤ med a b c ↔ (x ≤ a ∧ x ≤ b) ∨ (x ≤ a ∧ x ≤ c) ∨ (x ≤ b ∧ x ≤ c) := by unfold med; (repeat' split) <;> omega
theorem med_add {a b c m : Int} : med (a + m) (b + m) (c + m) = med a b c + m := by unfold med; (repeat' split) <;> omega
theorem med_sub {a b c m : Int} : med (m - a) (m - b) (m - c) = m - med a b c := by unfold med; (repeat' split) <;> omega
theorem med_mono {a b c x y z : Int} (h1 : a ≤ x) (h2 : b ≤ y) (h3 : c ≤ z) : med a b c ≤ med x y z := by rw [med_le]; unfold med; (repeat' split) <;> omega
def mids (n : Nat) (a b c : List Int) : List Int := (List.range n).map fun j => med (a.getD j 0) (b.getD j 0) (c.getD j 0)
variable {n : Int} {a b c : List Int}
theorem mids_len {n : Nat} : (mids n a b c).length = n := by simp [mids]
theorem mids_ba {n : Nat} : mids n b a c = mids n a b c := List.map_congr_left fun _ _ => med_ba _ _ _
theorem mids_cb {n : Nat} : mids n a c b = mids n a b c := List.map_congr_left fun _ _ => med_cb _ _ _
theorem range_getD {n : Nat} (h : a.length = n) : (List.range n).map (fun j => a.getD j 0) = a := by
  subst h
  apply List.ext_getElem (by simp)
  intro i h1 h2
  simp [h2]
theorem mids_aba {n : Nat} (h : a.length = n) : mids n a b a = a := by
  refine Eq.trans ?_ (range_getD h)
  exact List.map_congr_left fun _ _ => med_aba _ _
theorem mids_in {n : Nat} (h : a.length = n) (q : ∀ j < n, c.getD j 0 ≤ a.getD j 0 ∧ a.getD j 0 ≤ b.getD j 0) : mids n a b c = a := by
  refine Eq.trans ?_ (range_getD h)
  exact List.map_congr_left fun j hj => med_in (q j (List.mem_range.mp hj))
theorem see_mids {g : Int} (hg : Ga n g) : seeN (mids n.toNat a b c) g = med (seeN a g) (seeN b g) (seeN c g) := by
  obtain ⟨h0, h1⟩ := hg
  unfold seeN mids
  rw [List.getD_eq_getElem?_getD, List.getElem?_map, List.getElem?_range (by omega)]
  rfl
theorem mids_mem {P : Int → Prop} {n : Nat} (ha : ∀ i ∈ a, P i) (hb : ∀ i ∈ b, P i) (hc : ∀ i ∈ c, P i) (l1 : a.length = n) (l2 : b.length = n) (l3 : c.length = n) : ∀ i ∈ mids n a b c, P i := by
  intro i hi
  obtain ⟨j, hj, rfl⟩ := List.mem_map.mp hi
  have hj := List.mem_range.mp hj
  have g : ∀ {l : List Int}, l.length = n → l.getD j 0 ∈ l := fun {l} h => by
    rw [List.getD_eq_getElem?_getD, List.getElem?_eq_getElem (by omega)]
    exact List.getElem_mem (by omega)
  have e : med (a.getD j 0) (b.getD j 0) (c.getD j 0) = a.getD j 0 ∨ med (a.getD j 0) (b.getD j 0) (c.getD j 0) = b.getD j 0 ∨ med (a.getD j 0) (b.getD j 0) (c.getD j 0) = c.getD j 0 := by
    unfold med
    (repeat' split) <;> simp
  rcases e with e | e | e <;> rw [e]
  · exact ha _ (g l1)
  · exact hb _ (g l2)
  · exact hc _ (g l3)
theorem mk_hd {s : List Int} {p : Mk} : (p.hd s = true) ↔ if p.w then p.m ≤ seeN s p.g else seeN s p.g ≤ p.m := by
  unfold Mk.hd
  split <;> simp
/-- two of three that hold of it are enough for a bound -/
theorem mk_two {p : Mk} (hg : Ga n p.g) (h : (p.hd a = true ∧ p.hd b = true) ∨ (p.hd a = true ∧ p.hd c = true) ∨ (p.hd b = true ∧ p.hd c = true)) : p.hd (mids n.toNat a b c) = true := by
  simp only [mk_hd, see_mids hg] at h ⊢
  split
  · rename_i hw
    simp only [hw, if_true] at h
    exact med_ge.mpr h
  · rename_i hw
    simp only [hw, if_false] at h
    exact med_le.mpr h
theorem hd_med {r : Ru} (h : r.ok n) (h1 : r.hd a = true) (h2 : r.hd b = true) (h3 : r.hd c = true) : r.hd (mids n.toNat a b c) = true := by
  cases r with
  | bd p => exact mk_two h (.inl ⟨h1, h2⟩)
  | ei p q =>
    simp only [Ru.hd, Bool.or_eq_true] at h1 h2 h3 ⊢
    rcases h1 with h1 | h1 <;> rcases h2 with h2 | h2 <;> rcases h3 with h3 | h3
    · exact .inl (mk_two h.1 (.inl ⟨h1, h2⟩))
    · exact .inl (mk_two h.1 (.inl ⟨h1, h2⟩))
    · exact .inl (mk_two h.1 (.inr (.inl ⟨h1, h3⟩)))
    · exact .inr (mk_two h.2 (.inr (.inr ⟨h2, h3⟩)))
    · exact .inl (mk_two h.1 (.inr (.inr ⟨h2, h3⟩)))
    · exact .inr (mk_two h.2 (.inr (.inl ⟨h1, h3⟩)))
    · exact .inr (mk_two h.2 (.inl ⟨h1, h2⟩))
    · exact .inr (mk_two h.2 (.inl ⟨h1, h2⟩))
  | ap g g' m =>
    simp only [Ru.hd, decide_eq_true_eq] at h1 h2 h3 ⊢
    rw [see_mids h.1, see_mids h.2.1, ← med_add]
    exact med_mono h1 h2 h3
  | sm g g' w m =>
    cases w
    · simp only [Ru.hd, Bool.false_eq_true, if_false, decide_eq_true_eq] at h1 h2 h3 ⊢
      rw [see_mids h.1, see_mids h.2.1]
      have := med_mono (show seeN a g ≤ m - seeN a g' by omega) (show seeN b g ≤ m - seeN b g' by omega) (show seeN c g ≤ m - seeN c g' by omega)
      rw [med_sub] at this
      omega
    · simp only [Ru.hd, if_true, decide_eq_true_eq] at h1 h2 h3 ⊢
      rw [see_mids h.1, see_mids h.2.1]
      have := med_mono (show m - seeN a g' ≤ seeN a g by omega) (show m - seeN b g' ≤ seeN b g by omega) (show m - seeN c g' ≤ seeN c g by omega)
      rw [med_sub] at this
      omega
/-! ## The most of some numbers, by a loop -/
def mxU (s : List Int) : Nat → Int
  | 0 => 0
  | j + 1 => if j = 0 ∨ mxU s j < s.getD j 0 then s.getD j 0 else mxU s j
theorem mxU_le {s : List Int} : ∀ {j i : Nat}, i < j → s.getD i 0 ≤ mxU s j
  | j + 1, i, h => by
    show _ ≤ (if j = 0 ∨ mxU s j < s.getD j 0 then s.getD j 0 else mxU s j)
    by_cases e : i = j
    · subst e
      split <;> omega
    · have := mxU_le (s := s) (j := j) (i := i) (by omega)
      split <;> omega
theorem mxU_all {s : List Int} : ∀ x ∈ s, x ≤ mxU s s.length := by
  intro x hx
  obtain ⟨i, hi, rfl⟩ := List.getElem_of_mem hx
  have := mxU_le (s := s) hi
  rwa [List.getD_eq_getElem?_getD, List.getElem?_eq_getElem hi] at this
theorem for_up {Φ : PhiN} {np n y : Nat} {body : List CS} (I : Nat → Rho → Prop) (hy : ¬ y < np) : ∀ {items : List D} {j : Nat} {ρ : Rho}, (∀ i x, items[i]? = some x → ∀ ρ, I (j + i) ρ → ∃ ρ', Bk Φ np n body (ρ.set y (some (.imm x))) .nx ρ' ∧ I (j + i + 1) ρ') → I j ρ →
    ∃ ρ', forTurns (stC np y) (blockC (evCS Φ np n) body) items ρ = some (.nx, ρ') ∧ I (j + items.length) ρ'
  | [], j, ρ, _, h => ⟨ρ, rfl, h⟩
  | x :: r, j, ρ, hb, h => by
    obtain ⟨ρ1, a, b⟩ := hb 0 x rfl ρ h
    obtain ⟨ρ2, c, d⟩ := for_up I hy (items := r) (j := j + 1) (fun i x hx ρ hi => by
      obtain ⟨ρ', e, f⟩ := hb (i + 1) x (by simpa using hx) ρ (by rw [show j + (i + 1) = j + 1 + i by omega]; exact hi)
      exact ⟨ρ', e, by rw [show j + 1 + i + 1 = j + (i + 1) + 1 by omega]; exact f⟩) b
    exact ⟨ρ2, for_cons hy a c, by rw [List.length_cons, show j + (r.length + 1) = j + 1 + r.length by omega]; exact d⟩
theorem rangeD_at {m i : Nat} {x : D} (h : (rangeD m)[i]? = some x) : i < m ∧ x = .int (i : Nat) := by
  have hl : i < m := by
    have := (List.getElem?_eq_some_iff.mp h).1
    rwa [rangeD_len] at this
  unfold rangeD at h
  rw [List.getElem?_map, List.getElem?_range hl] at h
  cases h
  exact ⟨hl, by show D.int (0 + (i : Int)) = _; rw [Int.zero_add]⟩
theorem lcC_mapA {α : Type} {Φ : PhiN} {n i : Nat} {el : CE} {ρ : Rho} {f g : α → D} {xs : List α} (h0 : ρ[i]? = some none) (hl : xs.length ≤ line) (h : ∀ x ∈ xs, EvD Φ n el (ρ.set i (some (.imm (f x)))) (g x) (ρ.set i (some (.imm (f x))))) :
    lcC (xs.map f) ρ i (tsC (fun c ρ => bF (evC Φ n c ρ)) []) (evC Φ n el) = some (.cel (xs.map g), ρ) := by
  have h2 : lcTurns (tsC (fun c ρ => bF (evC Φ n c ρ)) []) (evC Φ n el) i (xs.map f) ρ = some (xs.map g, ρ) := by
    clear hl
    induction xs with
    | nil => rfl
    | cons s r ih =>
      have ih := ih fun x hx => h x (List.mem_cons_of_mem _ hx)
      show lcTurns _ _ i (f s :: r.map f) ρ = _
      unfold lcTurns
      show (immF (evC Φ n el) (ρ.set i (some (.imm (f s))))).bind _ = _
      rw [(h s List.mem_cons_self).is]
      show (lcTurns _ _ i (r.map f) ((ρ.set i (some (.imm (f s)))).set i none)).bind _ = _
      rw [set_back h0, ih]
      rfl
  have := lcC_is h0 h2 (by simpa using hl)
  rw [this]
  have e := set_back (x := none) h0
  rw [List.set_set] at e
  rw [e]
/-! ## Readings cut and joined -/
theorem cutT {s : List Int} {g : Int} (h0 : 0 ≤ g) (hl : g ≤ s.length) : slD (dI s) none (some g) = some (.imm (.tup ((s.take g.toNat).map D.int))) := by
  obtain ⟨j, rfl⟩ := Int.eq_ofNat_of_zero_le h0
  show some (En.imm (.tup (cutL (s.map D.int) none (some (j : Int))))) = _
  unfold cutL
  rw [HT.sIx_none, HT.sIx_nat, List.length_map, Nat.min_eq_left (by omega)]
  simp
theorem cutD {s : List Int} {g : Int} (h0 : 0 ≤ g) (hl : g ≤ s.length) : slD (dI s) (some g) none = some (.imm (.tup ((s.drop g.toNat).map D.int))) := by
  obtain ⟨j, rfl⟩ := Int.eq_ofNat_of_zero_le h0
  show some (En.imm (.tup (cutL (s.map D.int) (some (j : Int)) none))) = _
  unfold cutL
  rw [HT.sIx_none, HT.sIx_nat, List.length_map, Nat.min_eq_left (by omega)]
  rw [List.take_of_length_le (by simp), List.map_drop]
  simp
theorem shpN_dI {s : List Int} : Shp (dI s) := ShpN.shp (shpN_tup (n := 0) (by
  intro d hd
  obtain ⟨i, _, rfl⟩ := List.mem_map.mp hd
  exact ⟨rfl, Nat.le_refl _⟩)) (by decide)
theorem rules_of2 {P : Ru → Prop} : ∀ {ys : List D}, (∀ y ∈ ys, ∃ r, y = Ru.d r ∧ P r) → ∃ rs : List Ru, ys = rs.map Ru.d ∧ ∀ r ∈ rs, P r
  | [], _ => ⟨[], rfl, fun _ h => by cases h⟩
  | y :: ys, h => by
    obtain ⟨r, e, p⟩ := h y List.mem_cons_self
    obtain ⟨rs, e2, q⟩ := rules_of2 (ys := ys) fun x hx => h x (List.mem_cons_of_mem _ hx)
    exact ⟨r :: rs, by rw [e, e2]; rfl, fun x hx => by
      rcases List.mem_cons.mp hx with rfl | hx
      · exact p
      · exact q x hx⟩
end Mx
set_option maxHeartbeats 400000
namespace Mx
open PySem L2
/-! ## Bounds, sorted -/
def Mk.tri (p : Mk) : Tri := (p.g, wS p.w, p.m)
theorem trD_tri {p : Mk} : trD p.tri = p.d := rfl
theorem trLt_mk {p q : Mk} : trLt p.tri q.tri = p.lt q := by
  obtain ⟨g, w, m⟩ := p
  obtain ⟨g', w', m'⟩ := q
  show PyProof.Rows.lexLt PyProof.Rows.itemOrd [.inl g, .inr (wS w).cps.toList, .inl m] [.inl g', .inr (wS w').cps.toList, .inl m'] = _
  rw [PyProof.Rows.lex_cons, PyProof.Rows.lex_cons, PyProof.Rows.lex_cons]
  show (decide (g < g') || (!decide (g' < g) && (decide ((wS w).cps.toList < (wS w').cps.toList) || (!decide ((wS w').cps.toList < (wS w).cps.toList) && (decide (m < m') || (!decide (m' < m) && false)))))) = _
  have e : ∀ a b : Bool, decide ((wS a).cps.toList < (wS b).cps.toList) = (a && !b) := by intro a b; cases a <;> cases b <;> decide +kernel
  rw [e, e]
  unfold Mk.lt
  simp only []
  by_cases h : g = g'
  · subst h
    cases w <;> cases w' <;> simp
  · rw [if_neg h]
    by_cases h2 : g < g'
    · simp [h2]
    · have : g' < g := by omega
      simp [h2, this]
def insM (x : Mk) : List Mk → List Mk
  | [] => [x]
  | y :: r => if x = y then y :: r else if x.lt y then x :: y :: r else y :: insM x r
def srtM (l : List Mk) : List Mk := l.foldr insM []
theorem tri_inj {p q : Mk} : p.tri = q.tri ↔ p = q := by
  obtain ⟨g, w, m⟩ := p
  obtain ⟨g', w', m'⟩ := q
  simp [Mk.tri, wS_ne]
theorem insT_mk {x : Mk} : ∀ {l : List Mk}, insT x.tri (l.map Mk.tri) = (insM x l).map Mk.tri
  | [] => rfl
  | y :: r => by
    show (if x.tri = y.tri then y.tri :: r.map Mk.tri else if trLt x.tri y.tri then x.tri :: y.tri :: r.map Mk.tri else y.tri :: insT x.tri (r.map Mk.tri)) = (if x = y then y :: r else if x.lt y then x :: y :: r else y :: insM x r).map Mk.tri
    rw [trLt_mk, insT_mk (l := r)]
    by_cases h : x = y
    · rw [if_pos h, if_pos (tri_inj.mpr h)]; rfl
    · rw [if_neg h, if_neg (fun z => h (tri_inj.mp z))]
      split <;> rfl
theorem srtT_mk : ∀ {l : List Mk}, srtT (l.map Mk.tri) = (srtM l).map Mk.tri
  | [] => rfl
  | x :: r => by
    show insT x.tri (srtT (r.map Mk.tri)) = _
    rw [srtT_mk (l := r), insT_mk]
    rfl
theorem dTrs_mk : ∀ {l : List Mk}, dTrs (dMs l) = some (l.map Mk.tri)
  | [] => rfl
  | x :: r => by
    show (dTr x.d).bind (fun y => (dTrs (dMs r)).bind fun ys => some (y :: ys)) = _
    rw [dTrs_mk (l := r)]
    rfl
theorem srtD_mk {l : List Mk} (h : l.length < 64) : srtD (.lst (dMs l)) = some (.cel (dMs (srtM l))) := by
  show (dTrs (dMs l)).bind (fun ts => if ts.length < 64 then some (En.cel ((srtT ts).map trD)) else none) = _
  rw [dTrs_mk]
  show (if (l.map Mk.tri).length < 64 then some (En.cel ((srtT (l.map Mk.tri)).map trD)) else none) = _
  rw [if_pos (by rw [List.length_map]; exact h), srtT_mk, List.map_map]
  rfl
/-- what the law gathers for an either -/
theorem fc_srt {a b p : Mk} : srtM ((if p.op a then [b] else []) ++ (if p.op b && !((if p.op a then [b] else []).contains a) then [a] else [])) = Ru.fc (.ei a b) p := by
  have irr : ∀ x : Mk, x.lt x = false := fun x => by unfold Mk.lt; simp
  show _ = (if a.lt b then fcE a b p else fcE b a p)
  have sym : a.lt b = true → b.lt a = false := by
    obtain ⟨g, w, m⟩ := a
    obtain ⟨g', w', m'⟩ := b
    intro h
    unfold Mk.lt at *
    simp only [] at *
    by_cases h1 : g = g'
    · subst h1
      by_cases h2 : w = w'
      · subst h2
        simp at h ⊢
        omega
      · cases w <;> cases w' <;> simp_all
    · have : ¬ g' = g := fun z => h1 z.symm
      simp [h1, this] at h ⊢
      omega
  have tot : a.lt b = false → b.lt a = false → a = b := by
    obtain ⟨g, w, m⟩ := a
    obtain ⟨g', w', m'⟩ := b
    intro h h'
    unfold Mk.lt at *
    simp only [] at *
    by_cases h1 : g = g'
    · subst h1
      by_cases h2 : w = w'
      · subst h2
        simp at h h' ⊢
        omega
      · cases w <;> cases w' <;> simp_all
    · have : ¬ g' = g := fun z => h1 z.symm
      simp [h1, this] at h h'
      omega
  by_cases e : a = b
  · subst e
    rw [irr]
    unfold fcE
    cases h : p.op a <;> simp [srtM, insM, h]
  · have ne : ¬ b = a := fun z => e z.symm
    cases l1 : a.lt b
    · have l2 : b.lt a = true := by
        cases z : b.lt a with
        | true => rfl
        | false => exact (e (tot l1 z)).elim
      unfold fcE
      cases h1 : p.op a <;> cases h2 : p.op b <;> simp [srtM, insM, e, ne, l1, l2]
    · have l2 := sym l1
      unfold fcE
      cases h1 : p.op a <;> cases h2 : p.op b <;> simp [srtM, insM, e, ne, l1, l2]
/-! ## .. written -/
theorem sz_mk {p : Mk} (hg : 0 ≤ p.g ∧ p.g ≤ 5) (hm : -1000000000000000000 ≤ p.m ∧ p.m ≤ 1000000000000000000) : Sz 6000 1 p.d :=
  (sz_tup (n := 1921) (dp := 0) (l := [.int p.g, .str (wS p.w), .int p.m]) (by
    intro d hd
    rcases List.mem_cons.mp hd with rfl | hd
    · exact sz_i (by omega)
    rcases List.mem_cons.mp hd with rfl | hd
    · exact sz_wS
    rcases List.mem_cons.mp hd with rfl | hd
    · exact sz_i hm
    · cases hd)).up (show 3 * (1921 + 2) + 4 ≤ 6000 by decide) (by decide)
def MkB (p : Mk) : Prop := (0 ≤ p.g ∧ p.g ≤ 5) ∧ (-1000000000000000000 ≤ p.m ∧ p.m ≤ 1000000000000000000)
theorem sz_mks {l : List Mk} (h : ∀ p ∈ l, MkB p) (hl : l.length ≤ 64) : Sz 400000 2 (.lst (dMs l)) :=
  (sz_lst (n := 6000) (dp := 1) (l := dMs l) (by
    intro d hd
    obtain ⟨p, hp, rfl⟩ := List.mem_map.mp hd
    exact sz_mk (h p hp).1 (h p hp).2)).up (by rw [dMs, List.length_map]; omega) (by decide)
theorem ro_mks {l : List Mk} (h : ∀ p ∈ l, MkB p) (hl : l.length ≤ 64) : RO (.lst (dMs l)) := (sz_mks h hl).ro (by decide) (by decide)
theorem inD_mk {a : Mk} {l : List Mk} : cmpD .In a.d (.lst (dMs l)) = some (l.contains a) := by
  show ((flat a.d).bind (fun v => (flats (dMs l)).bind fun vs => some (inV v vs))).or (if SeqAt.shaped (toPy a.d) && SeqAt.shaped (.list (toPys (dMs l))) then some ((toPys (dMs l)).any fun z => PyData.eqv z (toPy a.d)) else none) = _
  have e0 : (flat a.d).bind (fun v => (flats (dMs l)).bind fun vs => some (inV v vs)) = none := rfl
  rw [e0, Option.none_or]
  have s1 : SeqAt.shaped (toPy a.d) = true := by
    unfold SeqAt.shaped
    rw [shp_mk.1, Bool.true_and]
    exact decide_eq_true (by have := (shp_mk (p := a)).2; omega)
  have s2 : SeqAt.shaped (.list (toPys (dMs l))) = true := by
    have q : ShpN 2 (.lst (dMs l)) := shpN_lst (n := 1) (by
      intro d hd
      obtain ⟨p, hp, rfl⟩ := List.mem_map.mp hd
      exact shpN_mk)
    unfold SeqAt.shaped
    have q1 : (PyData.list (toPys (dMs l))).canLay0 = true := q.1
    have q2 : (PyData.list (toPys (dMs l))).depth ≤ 2 := q.2
    rw [q1, Bool.true_and]
    exact decide_eq_true (by omega)
  rw [s1, s2]
  show some ((toPys (dMs l)).any fun z => PyData.eqv z (toPy a.d)) = _
  congr 1
  unfold dMs
  rw [toPys_map, List.any_map]
  rw [Bool.eq_iff_iff]
  simp only [List.any_eq_true, Function.comp, eqv_mk, decide_eq_true_eq, List.contains_iff_mem]
  constructor
  · rintro ⟨x, hx, rfl⟩; exact hx
  · intro h; exact ⟨a, h, rfl⟩
theorem notInD_mk {a : Mk} {l : List Mk} : cmpD .NotIn a.d (.lst (dMs l)) = some (!l.contains a) := by
  show (cmpD .In a.d (.lst (dMs l))).map (!·) = _
  rw [inD_mk]
  rfl
end Mx
set_option maxHeartbeats 0
namespace La
open PySem L2 Mx
def top (i : Nat) : Stmt := PySem.Challenge.pw_middlegauges_k09_forced_bounds.main.body.getD i (.Pass ⟨0, 0, 0, 0⟩)
def r_is_integer : Rec := ⟨["value"], ["value"], top 8, [(1, [])], [false]⟩
def r_is_tuple : Rec := ⟨["value"], ["value"], top 9, [(1, [])], [false]⟩
def r_fits_gauge : Rec := ⟨["gauges", "value"], ["gauges", "value"], top 10, [(2, [])], [false, false]⟩
def r_fits_way : Rec := ⟨["value"], ["value"], top 11, [(1, [])], [false]⟩
def r_fits_bound : Rec := ⟨["gauges", "value", "gauge", "way", "number"], ["gauges", "value"], top 12, [(2, [])], [false, false]⟩
def r_fits_apart : Rec := ⟨["gauges", "value", "both", "_", "gauge", "other_gauge", "number"], ["gauges", "value"], top 13, [(2, [])], [false, false]⟩
def r_fits_sum : Rec := ⟨["gauges", "value", "both", "_", "gauge", "other_gauge", "way", "number"], ["gauges", "value"], top 14, [(2, [])], [false, false]⟩
def r_fits_rule : Rec := ⟨["gauges", "value", "kind"], ["gauges", "value"], top 15, [(2, [])], [false, false]⟩
def r_check_gauges : Rec := ⟨["gauges"], ["gauges"], top 16, [(1, [])], [false]⟩
def r_check_bound : Rec := ⟨["gauges", "bound"], ["gauges", "bound"], top 17, [(2, [])], [false, false]⟩
def r_check_rule : Rec := ⟨["gauges", "rule"], ["gauges", "rule"], top 18, [(2, [])], [false, false]⟩
def r_is_beyond : Rec := ⟨["way", "number", "mark"], ["way", "number", "mark"], top 20, [(3, [])], [false, false, false]⟩
def r_opposes : Rec := ⟨["bound", "other_bound", "gauge", "way", "number", "other_gauge", "other_way", "other_number"], ["bound", "other_bound"], top 21, [(2, [])], [false, false]⟩
def r_forced : Rec := ⟨["gauges", "rule", "bound"], ["gauges", "rule", "bound"], top 23, [(0, ["bound", "rule", "gauges"]), (3, [])], [false, false, false]⟩
def r_forced_by : Rec := ⟨["rule", "bound", "kind"], ["rule", "bound"], top 24, [(2, [])], [false, false]⟩
def r_forced_by_apart : Rec := ⟨["rule", "bound", "_", "gauge", "other_gauge", "apart", "on", "way", "number"], ["rule", "bound"], top 25, [(2, [])], [false, false]⟩
def r_forced_by_sum : Rec := ⟨["rule", "bound", "partner", "_", "gauge", "other_gauge", "rule_way", "total", "on", "way", "number"], ["rule", "bound"], top 26, [(2, [])], [false, false]⟩
def r_forced_by_either : Rec := ⟨["rule", "bound", "found", "_", "one", "other", "low", "high"], ["rule", "bound"], top 27, [(2, [])], [false, false]⟩
def r__law_bag : Rec := ⟨["cell"], ["cell"], top 29, [(1, [])], [false]⟩
def r__law_draw : Rec := ⟨["bag", "upto", "turn", "again", "digit"], ["bag", "upto"], top 30, [(2, [])], [true, false]⟩
def r__law_number : Rec := ⟨["bag", "size"], ["bag"], top 31, [(1, [])], [true]⟩
def r__law_way : Rec := ⟨["bag"], ["bag"], top 32, [(1, [])], [true]⟩
def r__law_mark : Rec := ⟨["bag", "wide"], ["bag", "wide"], top 33, [(2, [])], [true, false]⟩
def r__law_two : Rec := ⟨["bag", "wide", "low"], ["bag", "wide"], top 34, [(2, [])], [true, false]⟩
def r__law_term : Rec := ⟨["bag", "wide", "kind", "low", "high"], ["bag", "wide"], top 35, [(2, [])], [true, false]⟩
def r__law_contrary : Rec := ⟨["mark"], ["mark"], top 36, [(1, [])], [false]⟩
def r__law_oppose : Rec := ⟨["one", "two"], ["one", "two"], top 37, [(2, [])], [false, false]⟩
def r__law_forced : Rec := ⟨["term", "mark", "found", "dial", "hand", "much"], ["term", "mark"], top 38, [(2, [])], [false, false]⟩
def r__law_beside : Rec := ⟨["bag", "wide", "term", "dial", "hand", "much"], ["bag", "wide", "term"], top 39, [(3, [])], [true, true, false]⟩
def r__law_far : Rec := ⟨["bag", "wide", "mark", "low", "high", "by", "much", "flip", "turn"], ["bag", "wide"], top 40, [(2, [])], [true, false]⟩
def r_law : Rec := ⟨["script", "cell", "bag", "term", "mark", "due", "found", "doubled", "opposite", "wide", "near"], ["script"], top 41, [(1, [])], [false]⟩
def tab : List (Str × Rec) := [(("is_integer" : Str), r_is_integer), (("is_tuple" : Str), r_is_tuple), (("fits_gauge" : Str), r_fits_gauge), (("fits_way" : Str), r_fits_way), (("fits_bound" : Str), r_fits_bound), (("fits_apart" : Str), r_fits_apart), (("fits_sum" : Str), r_fits_sum), (("fits_rule" : Str), r_fits_rule), (("check_gauges" : Str), r_check_gauges), (("check_bound" : Str), r_check_bound), (("check_rule" : Str), r_check_rule), (("is_beyond" : Str), r_is_beyond), (("opposes" : Str), r_opposes), (("forced" : Str), r_forced), (("forced_by" : Str), r_forced_by), (("forced_by_apart" : Str), r_forced_by_apart), (("forced_by_sum" : Str), r_forced_by_sum), (("forced_by_either" : Str), r_forced_by_either), (("_law_bag" : Str), r__law_bag), (("_law_draw" : Str), r__law_draw), (("_law_number" : Str), r__law_number), (("_law_way" : Str), r__law_way), (("_law_mark" : Str), r__law_mark), (("_law_two" : Str), r__law_two), (("_law_term" : Str), r__law_term), (("_law_contrary" : Str), r__law_contrary), (("_law_oppose" : Str), r__law_oppose), (("_law_forced" : Str), r__law_forced), (("_law_beside" : Str), r__law_beside), (("_law_far" : Str), r__law_far), (("law" : Str), r_law)]
def cG : List (Str × D) := [("MOST_GAUGES", (.int 5)), ("WAYS", (.tup [(.str "least"), (.str "most")]))]
def cB : List Str := ["len", "int", "tuple", "repr", "max", "isinstance", "bool", "type", "sorted", "set"]
abbrev fnOf (k : Nat) (x : Str) : Option Fn := callF tab (fun x => cG.lookup x) (fun x => cB.contains x) k x
end La
set_option maxHeartbeats 0
namespace La
open PySem L2 Mx
theorem tab_ok {K : Frg} {h0 : Heap} {mg : Str → Option Value} (X0 : K.In h0) (G0 : h0.Ns mainGlobals mg)
    {f0 : Addr} {od0 an0 : Option Addr} {sl0 : Array (Option Value)} {oc0 kV0 dc0 pm0 cd0 ct0 : Value}
    {f1 : Addr} {od1 an1 : Option Addr} {sl1 : Array (Option Value)} {oc1 kV1 dc1 pm1 cd1 ct1 : Value}
    {f2 : Addr} {od2 an2 : Option Addr} {sl2 : Array (Option Value)} {oc2 kV2 dc2 pm2 cd2 ct2 : Value}
    {f3 : Addr} {od3 an3 : Option Addr} {sl3 : Array (Option Value)} {oc3 kV3 dc3 pm3 cd3 ct3 : Value}
    {f4 : Addr} {od4 an4 : Option Addr} {sl4 : Array (Option Value)} {oc4 kV4 dc4 pm4 cd4 ct4 : Value}
    {f5 : Addr} {od5 an5 : Option Addr} {sl5 : Array (Option Value)} {oc5 kV5 dc5 pm5 cd5 ct5 : Value}
    {f6 : Addr} {od6 an6 : Option Addr} {sl6 : Array (Option Value)} {oc6 kV6 dc6 pm6 cd6 ct6 : Value}
    {f7 : Addr} {od7 an7 : Option Addr} {sl7 : Array (Option Value)} {oc7 kV7 dc7 pm7 cd7 ct7 : Value}
    {f8 : Addr} {od8 an8 : Option Addr} {sl8 : Array (Option Value)} {oc8 kV8 dc8 pm8 cd8 ct8 : Value}
    {f9 : Addr} {od9 an9 : Option Addr} {sl9 : Array (Option Value)} {oc9 kV9 dc9 pm9 cd9 ct9 : Value}
    {f10 : Addr} {od10 an10 : Option Addr} {sl10 : Array (Option Value)} {oc10 kV10 dc10 pm10 cd10 ct10 : Value}
    {f11 : Addr} {od11 an11 : Option Addr} {sl11 : Array (Option Value)} {oc11 kV11 dc11 pm11 cd11 ct11 : Value}
    {f12 : Addr} {od12 an12 : Option Addr} {sl12 : Array (Option Value)} {oc12 kV12 dc12 pm12 cd12 ct12 : Value}
    {f13 : Addr} {od13 an13 : Option Addr} {sl13 : Array (Option Value)} {oc13 kV13 dc13 pm13 cd13 ct13 : Value}
    {f14 : Addr} {od14 an14 : Option Addr} {sl14 : Array (Option Value)} {oc14 kV14 dc14 pm14 cd14 ct14 : Value}
    {f15 : Addr} {od15 an15 : Option Addr} {sl15 : Array (Option Value)} {oc15 kV15 dc15 pm15 cd15 ct15 : Value}
    {f16 : Addr} {od16 an16 : Option Addr} {sl16 : Array (Option Value)} {oc16 kV16 dc16 pm16 cd16 ct16 : Value}
    {f17 : Addr} {od17 an17 : Option Addr} {sl17 : Array (Option Value)} {oc17 kV17 dc17 pm17 cd17 ct17 : Value}
    {f18 : Addr} {od18 an18 : Option Addr} {sl18 : Array (Option Value)} {oc18 kV18 dc18 pm18 cd18 ct18 : Value}
    {f19 : Addr} {od19 an19 : Option Addr} {sl19 : Array (Option Value)} {oc19 kV19 dc19 pm19 cd19 ct19 : Value}
    {f20 : Addr} {od20 an20 : Option Addr} {sl20 : Array (Option Value)} {oc20 kV20 dc20 pm20 cd20 ct20 : Value}
    {f21 : Addr} {od21 an21 : Option Addr} {sl21 : Array (Option Value)} {oc21 kV21 dc21 pm21 cd21 ct21 : Value}
    {f22 : Addr} {od22 an22 : Option Addr} {sl22 : Array (Option Value)} {oc22 kV22 dc22 pm22 cd22 ct22 : Value}
    {f23 : Addr} {od23 an23 : Option Addr} {sl23 : Array (Option Value)} {oc23 kV23 dc23 pm23 cd23 ct23 : Value}
    {f24 : Addr} {od24 an24 : Option Addr} {sl24 : Array (Option Value)} {oc24 kV24 dc24 pm24 cd24 ct24 : Value}
    {f25 : Addr} {od25 an25 : Option Addr} {sl25 : Array (Option Value)} {oc25 kV25 dc25 pm25 cd25 ct25 : Value}
    {f26 : Addr} {od26 an26 : Option Addr} {sl26 : Array (Option Value)} {oc26 kV26 dc26 pm26 cd26 ct26 : Value}
    {f27 : Addr} {od27 an27 : Option Addr} {sl27 : Array (Option Value)} {oc27 kV27 dc27 pm27 cd27 ct27 : Value}
    {f28 : Addr} {od28 an28 : Option Addr} {sl28 : Array (Option Value)} {oc28 kV28 dc28 pm28 cd28 ct28 : Value}
    {f29 : Addr} {od29 an29 : Option Addr} {sl29 : Array (Option Value)} {oc29 kV29 dc29 pm29 cd29 ct29 : Value}
    {f30 : Addr} {od30 an30 : Option Addr} {sl30 : Array (Option Value)} {oc30 kV30 dc30 pm30 cd30 ct30 : Value}
    {gt0 : Tok}
    {ga1 : Addr} {gd1 : Option Addr} {gn1 : Nat} {gs1 : Array (Option Value)} {gt1_0 gt1_1 : Tok}
    (a0 : PySem.W.nsIn K mainGlobals "is_integer" = some (some (.ref f0))) (l0 : K.lookup f0 = some ⟨oc0, od0, .func (PySem.W.fnOf "is_integer" "is_integer" (defArgs (top 8)) (defBody (top 8)) (defScope (top 8)) .none kV0 dc0 pm0 an0 cd0 ct0), sl0⟩) (c0 : PySem.W.codeIn K cd0 "is_integer" = true) (k0 : PySem.W.keepIn K (.ref f0) = true)
    (a1 : PySem.W.nsIn K mainGlobals "is_tuple" = some (some (.ref f1))) (l1 : K.lookup f1 = some ⟨oc1, od1, .func (PySem.W.fnOf "is_tuple" "is_tuple" (defArgs (top 9)) (defBody (top 9)) (defScope (top 9)) .none kV1 dc1 pm1 an1 cd1 ct1), sl1⟩) (c1 : PySem.W.codeIn K cd1 "is_tuple" = true) (k1 : PySem.W.keepIn K (.ref f1) = true)
    (a2 : PySem.W.nsIn K mainGlobals "fits_gauge" = some (some (.ref f2))) (l2 : K.lookup f2 = some ⟨oc2, od2, .func (PySem.W.fnOf "fits_gauge" "fits_gauge" (defArgs (top 10)) (defBody (top 10)) (defScope (top 10)) .none kV2 dc2 pm2 an2 cd2 ct2), sl2⟩) (c2 : PySem.W.codeIn K cd2 "fits_gauge" = true) (k2 : PySem.W.keepIn K (.ref f2) = true)
    (a3 : PySem.W.nsIn K mainGlobals "fits_way" = some (some (.ref f3))) (l3 : K.lookup f3 = some ⟨oc3, od3, .func (PySem.W.fnOf "fits_way" "fits_way" (defArgs (top 11)) (defBody (top 11)) (defScope (top 11)) .none kV3 dc3 pm3 an3 cd3 ct3), sl3⟩) (c3 : PySem.W.codeIn K cd3 "fits_way" = true) (k3 : PySem.W.keepIn K (.ref f3) = true)
    (a4 : PySem.W.nsIn K mainGlobals "fits_bound" = some (some (.ref f4))) (l4 : K.lookup f4 = some ⟨oc4, od4, .func (PySem.W.fnOf "fits_bound" "fits_bound" (defArgs (top 12)) (defBody (top 12)) (defScope (top 12)) .none kV4 dc4 pm4 an4 cd4 ct4), sl4⟩) (c4 : PySem.W.codeIn K cd4 "fits_bound" = true) (k4 : PySem.W.keepIn K (.ref f4) = true)
    (a5 : PySem.W.nsIn K mainGlobals "fits_apart" = some (some (.ref f5))) (l5 : K.lookup f5 = some ⟨oc5, od5, .func (PySem.W.fnOf "fits_apart" "fits_apart" (defArgs (top 13)) (defBody (top 13)) (defScope (top 13)) .none kV5 dc5 pm5 an5 cd5 ct5), sl5⟩) (c5 : PySem.W.codeIn K cd5 "fits_apart" = true) (k5 : PySem.W.keepIn K (.ref f5) = true)
    (a6 : PySem.W.nsIn K mainGlobals "fits_sum" = some (some (.ref f6))) (l6 : K.lookup f6 = some ⟨oc6, od6, .func (PySem.W.fnOf "fits_sum" "fits_sum" (defArgs (top 14)) (defBody (top 14)) (defScope (top 14)) .none kV6 dc6 pm6 an6 cd6 ct6), sl6⟩) (c6 : PySem.W.codeIn K cd6 "fits_sum" = true) (k6 : PySem.W.keepIn K (.ref f6) = true)
    (a7 : PySem.W.nsIn K mainGlobals "fits_rule" = some (some (.ref f7))) (l7 : K.lookup f7 = some ⟨oc7, od7, .func (PySem.W.fnOf "fits_rule" "fits_rule" (defArgs (top 15)) (defBody (top 15)) (defScope (top 15)) .none kV7 dc7 pm7 an7 cd7 ct7), sl7⟩) (c7 : PySem.W.codeIn K cd7 "fits_rule" = true) (k7 : PySem.W.keepIn K (.ref f7) = true)
    (a8 : PySem.W.nsIn K mainGlobals "check_gauges" = some (some (.ref f8))) (l8 : K.lookup f8 = some ⟨oc8, od8, .func (PySem.W.fnOf "check_gauges" "check_gauges" (defArgs (top 16)) (defBody (top 16)) (defScope (top 16)) .none kV8 dc8 pm8 an8 cd8 ct8), sl8⟩) (c8 : PySem.W.codeIn K cd8 "check_gauges" = true) (k8 : PySem.W.keepIn K (.ref f8) = true)
    (a9 : PySem.W.nsIn K mainGlobals "check_bound" = some (some (.ref f9))) (l9 : K.lookup f9 = some ⟨oc9, od9, .func (PySem.W.fnOf "check_bound" "check_bound" (defArgs (top 17)) (defBody (top 17)) (defScope (top 17)) .none kV9 dc9 pm9 an9 cd9 ct9), sl9⟩) (c9 : PySem.W.codeIn K cd9 "check_bound" = true) (k9 : PySem.W.keepIn K (.ref f9) = true)
    (a10 : PySem.W.nsIn K mainGlobals "check_rule" = some (some (.ref f10))) (l10 : K.lookup f10 = some ⟨oc10, od10, .func (PySem.W.fnOf "check_rule" "check_rule" (defArgs (top 18)) (defBody (top 18)) (defScope (top 18)) .none kV10 dc10 pm10 an10 cd10 ct10), sl10⟩) (c10 : PySem.W.codeIn K cd10 "check_rule" = true) (k10 : PySem.W.keepIn K (.ref f10) = true)
    (a11 : PySem.W.nsIn K mainGlobals "is_beyond" = some (some (.ref f11))) (l11 : K.lookup f11 = some ⟨oc11, od11, .func (PySem.W.fnOf "is_beyond" "is_beyond" (defArgs (top 20)) (defBody (top 20)) (defScope (top 20)) .none kV11 dc11 pm11 an11 cd11 ct11), sl11⟩) (c11 : PySem.W.codeIn K cd11 "is_beyond" = true) (k11 : PySem.W.keepIn K (.ref f11) = true)
    (a12 : PySem.W.nsIn K mainGlobals "opposes" = some (some (.ref f12))) (l12 : K.lookup f12 = some ⟨oc12, od12, .func (PySem.W.fnOf "opposes" "opposes" (defArgs (top 21)) (defBody (top 21)) (defScope (top 21)) .none kV12 dc12 pm12 an12 cd12 ct12), sl12⟩) (c12 : PySem.W.codeIn K cd12 "opposes" = true) (k12 : PySem.W.keepIn K (.ref f12) = true)
    (a13 : PySem.W.nsIn K mainGlobals "forced" = some (some (.ref f13))) (l13 : K.lookup f13 = some ⟨oc13, od13, .func (PySem.W.fnOf "forced" "forced" (defArgs (top 23)) (defBody (top 23)) (defScope (top 23)) .none kV13 dc13 pm13 an13 cd13 ct13), sl13⟩) (c13 : PySem.W.codeIn K cd13 "forced" = true) (k13 : PySem.W.keepIn K (.ref f13) = true)
    (a14 : PySem.W.nsIn K mainGlobals "forced_by" = some (some (.ref f14))) (l14 : K.lookup f14 = some ⟨oc14, od14, .func (PySem.W.fnOf "forced_by" "forced_by" (defArgs (top 24)) (defBody (top 24)) (defScope (top 24)) .none kV14 dc14 pm14 an14 cd14 ct14), sl14⟩) (c14 : PySem.W.codeIn K cd14 "forced_by" = true) (k14 : PySem.W.keepIn K (.ref f14) = true)
    (a15 : PySem.W.nsIn K mainGlobals "forced_by_apart" = some (some (.ref f15))) (l15 : K.lookup f15 = some ⟨oc15, od15, .func (PySem.W.fnOf "forced_by_apart" "forced_by_apart" (defArgs (top 25)) (defBody (top 25)) (defScope (top 25)) .none kV15 dc15 pm15 an15 cd15 ct15), sl15⟩) (c15 : PySem.W.codeIn K cd15 "forced_by_apart" = true) (k15 : PySem.W.keepIn K (.ref f15) = true)
    (a16 : PySem.W.nsIn K mainGlobals "forced_by_sum" = some (some (.ref f16))) (l16 : K.lookup f16 = some ⟨oc16, od16, .func (PySem.W.fnOf "forced_by_sum" "forced_by_sum" (defArgs (top 26)) (defBody (top 26)) (defScope (top 26)) .none kV16 dc16 pm16 an16 cd16 ct16), sl16⟩) (c16 : PySem.W.codeIn K cd16 "forced_by_sum" = true) (k16 : PySem.W.keepIn K (.ref f16) = true)
    (a17 : PySem.W.nsIn K mainGlobals "forced_by_either" = some (some (.ref f17))) (l17 : K.lookup f17 = some ⟨oc17, od17, .func (PySem.W.fnOf "forced_by_either" "forced_by_either" (defArgs (top 27)) (defBody (top 27)) (defScope (top 27)) .none kV17 dc17 pm17 an17 cd17 ct17), sl17⟩) (c17 : PySem.W.codeIn K cd17 "forced_by_either" = true) (k17 : PySem.W.keepIn K (.ref f17) = true)
    (a18 : PySem.W.nsIn K mainGlobals "_law_bag" = some (some (.ref f18))) (l18 : K.lookup f18 = some ⟨oc18, od18, .func (PySem.W.fnOf "_law_bag" "_law_bag" (defArgs (top 29)) (defBody (top 29)) (defScope (top 29)) .none kV18 dc18 pm18 an18 cd18 ct18), sl18⟩) (c18 : PySem.W.codeIn K cd18 "_law_bag" = true) (k18 : PySem.W.keepIn K (.ref f18) = true)
    (a19 : PySem.W.nsIn K mainGlobals "_law_draw" = some (some (.ref f19))) (l19 : K.lookup f19 = some ⟨oc19, od19, .func (PySem.W.fnOf "_law_draw" "_law_draw" (defArgs (top 30)) (defBody (top 30)) (defScope (top 30)) .none kV19 dc19 pm19 an19 cd19 ct19), sl19⟩) (c19 : PySem.W.codeIn K cd19 "_law_draw" = true) (k19 : PySem.W.keepIn K (.ref f19) = true)
    (a20 : PySem.W.nsIn K mainGlobals "_law_number" = some (some (.ref f20))) (l20 : K.lookup f20 = some ⟨oc20, od20, .func (PySem.W.fnOf "_law_number" "_law_number" (defArgs (top 31)) (defBody (top 31)) (defScope (top 31)) .none kV20 dc20 pm20 an20 cd20 ct20), sl20⟩) (c20 : PySem.W.codeIn K cd20 "_law_number" = true) (k20 : PySem.W.keepIn K (.ref f20) = true)
    (a21 : PySem.W.nsIn K mainGlobals "_law_way" = some (some (.ref f21))) (l21 : K.lookup f21 = some ⟨oc21, od21, .func (PySem.W.fnOf "_law_way" "_law_way" (defArgs (top 32)) (defBody (top 32)) (defScope (top 32)) .none kV21 dc21 pm21 an21 cd21 ct21), sl21⟩) (c21 : PySem.W.codeIn K cd21 "_law_way" = true) (k21 : PySem.W.keepIn K (.ref f21) = true)
    (a22 : PySem.W.nsIn K mainGlobals "_law_mark" = some (some (.ref f22))) (l22 : K.lookup f22 = some ⟨oc22, od22, .func (PySem.W.fnOf "_law_mark" "_law_mark" (defArgs (top 33)) (defBody (top 33)) (defScope (top 33)) .none kV22 dc22 pm22 an22 cd22 ct22), sl22⟩) (c22 : PySem.W.codeIn K cd22 "_law_mark" = true) (k22 : PySem.W.keepIn K (.ref f22) = true)
    (a23 : PySem.W.nsIn K mainGlobals "_law_two" = some (some (.ref f23))) (l23 : K.lookup f23 = some ⟨oc23, od23, .func (PySem.W.fnOf "_law_two" "_law_two" (defArgs (top 34)) (defBody (top 34)) (defScope (top 34)) .none kV23 dc23 pm23 an23 cd23 ct23), sl23⟩) (c23 : PySem.W.codeIn K cd23 "_law_two" = true) (k23 : PySem.W.keepIn K (.ref f23) = true)
    (a24 : PySem.W.nsIn K mainGlobals "_law_term" = some (some (.ref f24))) (l24 : K.lookup f24 = some ⟨oc24, od24, .func (PySem.W.fnOf "_law_term" "_law_term" (defArgs (top 35)) (defBody (top 35)) (defScope (top 35)) .none kV24 dc24 pm24 an24 cd24 ct24), sl24⟩) (c24 : PySem.W.codeIn K cd24 "_law_term" = true) (k24 : PySem.W.keepIn K (.ref f24) = true)
    (a25 : PySem.W.nsIn K mainGlobals "_law_contrary" = some (some (.ref f25))) (l25 : K.lookup f25 = some ⟨oc25, od25, .func (PySem.W.fnOf "_law_contrary" "_law_contrary" (defArgs (top 36)) (defBody (top 36)) (defScope (top 36)) .none kV25 dc25 pm25 an25 cd25 ct25), sl25⟩) (c25 : PySem.W.codeIn K cd25 "_law_contrary" = true) (k25 : PySem.W.keepIn K (.ref f25) = true)
    (a26 : PySem.W.nsIn K mainGlobals "_law_oppose" = some (some (.ref f26))) (l26 : K.lookup f26 = some ⟨oc26, od26, .func (PySem.W.fnOf "_law_oppose" "_law_oppose" (defArgs (top 37)) (defBody (top 37)) (defScope (top 37)) .none kV26 dc26 pm26 an26 cd26 ct26), sl26⟩) (c26 : PySem.W.codeIn K cd26 "_law_oppose" = true) (k26 : PySem.W.keepIn K (.ref f26) = true)
    (a27 : PySem.W.nsIn K mainGlobals "_law_forced" = some (some (.ref f27))) (l27 : K.lookup f27 = some ⟨oc27, od27, .func (PySem.W.fnOf "_law_forced" "_law_forced" (defArgs (top 38)) (defBody (top 38)) (defScope (top 38)) .none kV27 dc27 pm27 an27 cd27 ct27), sl27⟩) (c27 : PySem.W.codeIn K cd27 "_law_forced" = true) (k27 : PySem.W.keepIn K (.ref f27) = true)
    (a28 : PySem.W.nsIn K mainGlobals "_law_beside" = some (some (.ref f28))) (l28 : K.lookup f28 = some ⟨oc28, od28, .func (PySem.W.fnOf "_law_beside" "_law_beside" (defArgs (top 39)) (defBody (top 39)) (defScope (top 39)) .none kV28 dc28 pm28 an28 cd28 ct28), sl28⟩) (c28 : PySem.W.codeIn K cd28 "_law_beside" = true) (k28 : PySem.W.keepIn K (.ref f28) = true)
    (a29 : PySem.W.nsIn K mainGlobals "_law_far" = some (some (.ref f29))) (l29 : K.lookup f29 = some ⟨oc29, od29, .func (PySem.W.fnOf "_law_far" "_law_far" (defArgs (top 40)) (defBody (top 40)) (defScope (top 40)) .none kV29 dc29 pm29 an29 cd29 ct29), sl29⟩) (c29 : PySem.W.codeIn K cd29 "_law_far" = true) (k29 : PySem.W.keepIn K (.ref f29) = true)
    (a30 : PySem.W.nsIn K mainGlobals "law" = some (some (.ref f30))) (l30 : K.lookup f30 = some ⟨oc30, od30, .func (PySem.W.fnOf "law" "law" (defArgs (top 41)) (defBody (top 41)) (defScope (top 41)) .none kV30 dc30 pm30 an30 cd30 ct30), sl30⟩) (c30 : PySem.W.codeIn K cd30 "law" = true) (k30 : PySem.W.keepIn K (.ref f30) = true)
    (z0 : PySem.W.nsIn K mainGlobals "len" = some none)
    (z1 : PySem.W.nsIn K mainGlobals "int" = some none)
    (z2 : PySem.W.nsIn K mainGlobals "tuple" = some none)
    (z3 : PySem.W.nsIn K mainGlobals "repr" = some none)
    (z4 : PySem.W.nsIn K mainGlobals "max" = some none)
    (z5 : PySem.W.nsIn K mainGlobals "isinstance" = some none)
    (z6 : PySem.W.nsIn K mainGlobals "bool" = some none)
    (z7 : PySem.W.nsIn K mainGlobals "type" = some none)
    (z8 : PySem.W.nsIn K mainGlobals "sorted" = some none)
    (z9 : PySem.W.nsIn K mainGlobals "set" = some none)
    (g0 : PySem.W.nsIn K mainGlobals "MOST_GAUGES" = some (some (.int 5 gt0)))
    (g1 : PySem.W.nsIn K mainGlobals "WAYS" = some (some (.ref ga1))) (h1 : K.lookup ga1 = some ⟨.type "tuple", gd1, .seq #[.str "least" gt1_0, .str "most" gt1_1] gn1, gs1⟩)
    : TabOk K mg tab (fun x => cG.lookup x) (fun x => cB.contains x) := tabOk_of
    ⟨⟨_, _, _, fun_mk l0 c0 k0, ⟨rfl, rfl, rfl, by decide +kernel, rfl, by decide +kernel, by decide +kernel⟩, PySem.W.mg_of X0 G0 a0, ⟨(fun s us ws hu hw => match us, hu, ws, hw with | [_], _, [], _ => .of_eq rfl), trivial⟩⟩,
    ⟨_, _, _, fun_mk l1 c1 k1, ⟨rfl, rfl, rfl, by decide +kernel, rfl, by decide +kernel, by decide +kernel⟩, PySem.W.mg_of X0 G0 a1, ⟨(fun s us ws hu hw => match us, hu, ws, hw with | [_], _, [], _ => .of_eq rfl), trivial⟩⟩,
    ⟨_, _, _, fun_mk l2 c2 k2, ⟨rfl, rfl, rfl, by decide +kernel, rfl, by decide +kernel, by decide +kernel⟩, PySem.W.mg_of X0 G0 a2, ⟨(fun s us ws hu hw => match us, hu, ws, hw with | [_, _], _, [], _ => .of_eq rfl), trivial⟩⟩,
    ⟨_, _, _, fun_mk l3 c3 k3, ⟨rfl, rfl, rfl, by decide +kernel, rfl, by decide +kernel, by decide +kernel⟩, PySem.W.mg_of X0 G0 a3, ⟨(fun s us ws hu hw => match us, hu, ws, hw with | [_], _, [], _ => .of_eq rfl), trivial⟩⟩,
    ⟨_, _, _, fun_mk l4 c4 k4, ⟨rfl, rfl, rfl, by decide +kernel, rfl, by decide +kernel, by decide +kernel⟩, PySem.W.mg_of X0 G0 a4, ⟨(fun s us ws hu hw => match us, hu, ws, hw with | [_, _], _, [], _ => .of_eq rfl), trivial⟩⟩,
    ⟨_, _, _, fun_mk l5 c5 k5, ⟨rfl, rfl, rfl, by decide +kernel, rfl, by decide +kernel, by decide +kernel⟩, PySem.W.mg_of X0 G0 a5, ⟨(fun s us ws hu hw => match us, hu, ws, hw with | [_, _], _, [], _ => .of_eq rfl), trivial⟩⟩,
    ⟨_, _, _, fun_mk l6 c6 k6, ⟨rfl, rfl, rfl, by decide +kernel, rfl, by decide +kernel, by decide +kernel⟩, PySem.W.mg_of X0 G0 a6, ⟨(fun s us ws hu hw => match us, hu, ws, hw with | [_, _], _, [], _ => .of_eq rfl), trivial⟩⟩,
    ⟨_, _, _, fun_mk l7 c7 k7, ⟨rfl, rfl, rfl, by decide +kernel, rfl, by decide +kernel, by decide +kernel⟩, PySem.W.mg_of X0 G0 a7, ⟨(fun s us ws hu hw => match us, hu, ws, hw with | [_, _], _, [], _ => .of_eq rfl), trivial⟩⟩,
    ⟨_, _, _, fun_mk l8 c8 k8, ⟨rfl, rfl, rfl, by decide +kernel, rfl, by decide +kernel, by decide +kernel⟩, PySem.W.mg_of X0 G0 a8, ⟨(fun s us ws hu hw => match us, hu, ws, hw with | [_], _, [], _ => .of_eq rfl), trivial⟩⟩,
    ⟨_, _, _, fun_mk l9 c9 k9, ⟨rfl, rfl, rfl, by decide +kernel, rfl, by decide +kernel, by decide +kernel⟩, PySem.W.mg_of X0 G0 a9, ⟨(fun s us ws hu hw => match us, hu, ws, hw with | [_, _], _, [], _ => .of_eq rfl), trivial⟩⟩,
    ⟨_, _, _, fun_mk l10 c10 k10, ⟨rfl, rfl, rfl, by decide +kernel, rfl, by decide +kernel, by decide +kernel⟩, PySem.W.mg_of X0 G0 a10, ⟨(fun s us ws hu hw => match us, hu, ws, hw with | [_, _], _, [], _ => .of_eq rfl), trivial⟩⟩,
    ⟨_, _, _, fun_mk l11 c11 k11, ⟨rfl, rfl, rfl, by decide +kernel, rfl, by decide +kernel, by decide +kernel⟩, PySem.W.mg_of X0 G0 a11, ⟨(fun s us ws hu hw => match us, hu, ws, hw with | [_, _, _], _, [], _ => .of_eq rfl), trivial⟩⟩,
    ⟨_, _, _, fun_mk l12 c12 k12, ⟨rfl, rfl, rfl, by decide +kernel, rfl, by decide +kernel, by decide +kernel⟩, PySem.W.mg_of X0 G0 a12, ⟨(fun s us ws hu hw => match us, hu, ws, hw with | [_, _], _, [], _ => .of_eq rfl), trivial⟩⟩,
    ⟨_, _, _, fun_mk l13 c13 k13, ⟨rfl, rfl, rfl, by decide +kernel, rfl, by decide +kernel, by decide +kernel⟩, PySem.W.mg_of X0 G0 a13, ⟨(fun s us ws hu hw => match us, hu, ws, hw with | [], _, [_, _, _], _ => .of_eq rfl), (fun s us ws hu hw => match us, hu, ws, hw with | [_, _, _], _, [], _ => .of_eq rfl), trivial⟩⟩,
    ⟨_, _, _, fun_mk l14 c14 k14, ⟨rfl, rfl, rfl, by decide +kernel, rfl, by decide +kernel, by decide +kernel⟩, PySem.W.mg_of X0 G0 a14, ⟨(fun s us ws hu hw => match us, hu, ws, hw with | [_, _], _, [], _ => .of_eq rfl), trivial⟩⟩,
    ⟨_, _, _, fun_mk l15 c15 k15, ⟨rfl, rfl, rfl, by decide +kernel, rfl, by decide +kernel, by decide +kernel⟩, PySem.W.mg_of X0 G0 a15, ⟨(fun s us ws hu hw => match us, hu, ws, hw with | [_, _], _, [], _ => .of_eq rfl), trivial⟩⟩,
    ⟨_, _, _, fun_mk l16 c16 k16, ⟨rfl, rfl, rfl, by decide +kernel, rfl, by decide +kernel, by decide +kernel⟩, PySem.W.mg_of X0 G0 a16, ⟨(fun s us ws hu hw => match us, hu, ws, hw with | [_, _], _, [], _ => .of_eq rfl), trivial⟩⟩,
    ⟨_, _, _, fun_mk l17 c17 k17, ⟨rfl, rfl, rfl, by decide +kernel, rfl, by decide +kernel, by decide +kernel⟩, PySem.W.mg_of X0 G0 a17, ⟨(fun s us ws hu hw => match us, hu, ws, hw with | [_, _], _, [], _ => .of_eq rfl), trivial⟩⟩,
    ⟨_, _, _, fun_mk l18 c18 k18, ⟨rfl, rfl, rfl, by decide +kernel, rfl, by decide +kernel, by decide +kernel⟩, PySem.W.mg_of X0 G0 a18, ⟨(fun s us ws hu hw => match us, hu, ws, hw with | [_], _, [], _ => .of_eq rfl), trivial⟩⟩,
    ⟨_, _, _, fun_mk l19 c19 k19, ⟨rfl, rfl, rfl, by decide +kernel, rfl, by decide +kernel, by decide +kernel⟩, PySem.W.mg_of X0 G0 a19, ⟨(fun s us ws hu hw => match us, hu, ws, hw with | [_, _], _, [], _ => .of_eq rfl), trivial⟩⟩,
    ⟨_, _, _, fun_mk l20 c20 k20, ⟨rfl, rfl, rfl, by decide +kernel, rfl, by decide +kernel, by decide +kernel⟩, PySem.W.mg_of X0 G0 a20, ⟨(fun s us ws hu hw => match us, hu, ws, hw with | [_], _, [], _ => .of_eq rfl), trivial⟩⟩,
    ⟨_, _, _, fun_mk l21 c21 k21, ⟨rfl, rfl, rfl, by decide +kernel, rfl, by decide +kernel, by decide +kernel⟩, PySem.W.mg_of X0 G0 a21, ⟨(fun s us ws hu hw => match us, hu, ws, hw with | [_], _, [], _ => .of_eq rfl), trivial⟩⟩,
    ⟨_, _, _, fun_mk l22 c22 k22, ⟨rfl, rfl, rfl, by decide +kernel, rfl, by decide +kernel, by decide +kernel⟩, PySem.W.mg_of X0 G0 a22, ⟨(fun s us ws hu hw => match us, hu, ws, hw with | [_, _], _, [], _ => .of_eq rfl), trivial⟩⟩,
    ⟨_, _, _, fun_mk l23 c23 k23, ⟨rfl, rfl, rfl, by decide +kernel, rfl, by decide +kernel, by decide +kernel⟩, PySem.W.mg_of X0 G0 a23, ⟨(fun s us ws hu hw => match us, hu, ws, hw with | [_, _], _, [], _ => .of_eq rfl), trivial⟩⟩,
    ⟨_, _, _, fun_mk l24 c24 k24, ⟨rfl, rfl, rfl, by decide +kernel, rfl, by decide +kernel, by decide +kernel⟩, PySem.W.mg_of X0 G0 a24, ⟨(fun s us ws hu hw => match us, hu, ws, hw with | [_, _], _, [], _ => .of_eq rfl), trivial⟩⟩,
    ⟨_, _, _, fun_mk l25 c25 k25, ⟨rfl, rfl, rfl, by decide +kernel, rfl, by decide +kernel, by decide +kernel⟩, PySem.W.mg_of X0 G0 a25, ⟨(fun s us ws hu hw => match us, hu, ws, hw with | [_], _, [], _ => .of_eq rfl), trivial⟩⟩,
    ⟨_, _, _, fun_mk l26 c26 k26, ⟨rfl, rfl, rfl, by decide +kernel, rfl, by decide +kernel, by decide +kernel⟩, PySem.W.mg_of X0 G0 a26, ⟨(fun s us ws hu hw => match us, hu, ws, hw with | [_, _], _, [], _ => .of_eq rfl), trivial⟩⟩,
    ⟨_, _, _, fun_mk l27 c27 k27, ⟨rfl, rfl, rfl, by decide +kernel, rfl, by decide +kernel, by decide +kernel⟩, PySem.W.mg_of X0 G0 a27, ⟨(fun s us ws hu hw => match us, hu, ws, hw with | [_, _], _, [], _ => .of_eq rfl), trivial⟩⟩,
    ⟨_, _, _, fun_mk l28 c28 k28, ⟨rfl, rfl, rfl, by decide +kernel, rfl, by decide +kernel, by decide +kernel⟩, PySem.W.mg_of X0 G0 a28, ⟨(fun s us ws hu hw => match us, hu, ws, hw with | [_, _, _], _, [], _ => .of_eq rfl), trivial⟩⟩,
    ⟨_, _, _, fun_mk l29 c29 k29, ⟨rfl, rfl, rfl, by decide +kernel, rfl, by decide +kernel, by decide +kernel⟩, PySem.W.mg_of X0 G0 a29, ⟨(fun s us ws hu hw => match us, hu, ws, hw with | [_, _], _, [], _ => .of_eq rfl), trivial⟩⟩,
    ⟨_, _, _, fun_mk l30 c30 k30, ⟨rfl, rfl, rfl, by decide +kernel, rfl, by decide +kernel, by decide +kernel⟩, PySem.W.mg_of X0 G0 a30, ⟨(fun s us ws hu hw => match us, hu, ws, hw with | [_], _, [], _ => .of_eq rfl), trivial⟩⟩,
    trivial⟩
    ⟨⟨_, .int 5, PySem.W.mg_of X0 G0 g0, ⟨_, rfl⟩, fun M H => dInt.mpr rfl⟩,
    ⟨_, .ref ga1, PySem.W.mg_of X0 G0 g1, rfl, fun M H => dTup.mpr ⟨ga1, [.str "least", .str "most"], rfl, .inr (.inr ⟨_, _, _, h1, rfl, rfl, (show 2 ≤ sizeLine by decide), (.cons ⟨_, rfl⟩ (.cons ⟨_, rfl⟩ .nil))⟩), (DsOk.cons (dStr.mpr rfl) (DsOk.cons (dStr.mpr rfl) DsOk.nil))⟩⟩,
    trivial⟩
    ⟨PySem.W.mg_none_of X0 G0 z0,
    PySem.W.mg_none_of X0 G0 z1,
    PySem.W.mg_none_of X0 G0 z2,
    PySem.W.mg_none_of X0 G0 z3,
    PySem.W.mg_none_of X0 G0 z4,
    PySem.W.mg_none_of X0 G0 z5,
    PySem.W.mg_none_of X0 G0 z6,
    PySem.W.mg_none_of X0 G0 z7,
    PySem.W.mg_none_of X0 G0 z8,
    PySem.W.mg_none_of X0 G0 z9,
    trivial⟩
theorem law_fn {P : Program} {w : World} {K : Frg} {h0 : Heap} {mg : Str → Option Value} {fa : Addr} (t : TabOk K mg tab (fun x => cG.lookup x) (fun x => cB.contains x)) (hm : mg "law" = some (.ref fa)) :
    ∃ fd : FuncData, (∀ (s : Shared) (u : Value), BindsTo s fd ⟨[u], []⟩ [("script", u)]) ∧ ∀ base : Heap, K.In base → base.Ns mainGlobals mg → GOk P w K mg base 15 fa fd ["script"] (spF K ["script"] (runBody (gamOf (fun x => cG.lookup x) (fun x => cB.contains x) (fnOf 13) r_law) (defBody r_law.st))) := by
  obtain ⟨f, fd, qual, Fu, S, m, b⟩ := t.fns "law" r_law rfl
  have e := hm.symm.trans m
  cases e
  refine ⟨fd, fun s u => ?_, fun base _ _ => body_ok (k := 14) (by decide) t Fu S (callF_ok t 13)⟩
  obtain ⟨_, _, _, _, _, _, _, _, _, rfl, _, _⟩ := Fu.ex
  exact .of_eq rfl
end La
set_option maxHeartbeats 0
namespace La
open PySem L2 Mx
def d_is_integer : Df := ⟨1, 1, [(.ret (.bop .And [(.isI (.nm 0) "int"), (.not (.isI (.nm 0) "bool"))]))]⟩
def d_is_tuple : Df := ⟨1, 1, [(.ret (.tyEq (.nm 0) "tuple"))]⟩
def d_fits_gauge : Df := ⟨2, 2, [(.ret (.bop .And [(.own 0 [(.fz (.nm 1))]), (.cmp2 .LtE .Lt (.cst (.int 0)) (.nm 1) (.nm 0))]))]⟩
def d_fits_way : Df := ⟨1, 1, [(.ret (.cmp .In (.nm 0) (.cst (.tup [(.str "least"), (.str "most")]))))]⟩
def d_fits_bound : Df := ⟨5, 2, [(.ite (.bop .Or [(.not (.own 1 [(.fz (.nm 1))])), (.cmp .NotEq (.b1 .len (.nm 1)) (.cst (.int 3)))]) [(.ret (.cst (.bl false)))] []),
    (.asT [2, 3, 4] (.nm 1)),
    (.ret (.bop .And [(.own 2 [(.fz (.nm 0)), (.fz (.nm 2))]), (.own 3 [(.fz (.nm 3))]), (.own 0 [(.fz (.nm 4))])]))]⟩
def d_fits_apart : Df := ⟨7, 2, [(.ite (.cmp .NotEq (.b1 .len (.nm 1)) (.cst (.int 4))) [(.ret (.cst (.bl false)))] []),
    (.asT [3, 4, 5, 6] (.nm 1)),
    (.as1 2 (.bop .And [(.own 2 [(.fz (.nm 0)), (.fz (.nm 4))]), (.own 2 [(.fz (.nm 0)), (.fz (.nm 5))])])),
    (.ret (.bop .And [(.nm 2), (.cmp .NotEq (.nm 4) (.nm 5)), (.own 0 [(.fz (.nm 6))])]))]⟩
def d_fits_sum : Df := ⟨8, 2, [(.ite (.cmp .NotEq (.b1 .len (.nm 1)) (.cst (.int 5))) [(.ret (.cst (.bl false)))] []),
    (.asT [3, 4, 5, 6, 7] (.nm 1)),
    (.as1 2 (.bop .And [(.own 2 [(.fz (.nm 0)), (.fz (.nm 4))]), (.own 2 [(.fz (.nm 0)), (.fz (.nm 5))])])),
    (.ret (.bop .And [(.nm 2), (.cmp .Lt (.nm 4) (.nm 5)), (.own 3 [(.fz (.nm 6))]), (.own 0 [(.fz (.nm 7))])]))]⟩
def d_fits_rule : Df := ⟨3, 2, [(.ite (.bop .Or [(.not (.own 1 [(.fz (.nm 1))])), (.cmp .Eq (.b1 .len (.nm 1)) (.cst (.int 0)))]) [(.ret (.cst (.bl false)))] []),
    (.as1 2 (.ix (.nm 1) (.cst (.int 0)))),
    (.ite (.cmp .Eq (.nm 2) (.cst (.str "bound"))) [(.ret (.bop .And [(.cmp .Eq (.b1 .len (.nm 1)) (.cst (.int 2))), (.own 4 [(.fz (.nm 0)), (.fz (.ix (.nm 1) (.cst (.int 1))))])]))] []),
    (.ite (.cmp .Eq (.nm 2) (.cst (.str "apart"))) [(.ret (.own 5 [(.fz (.nm 0)), (.fz (.nm 1))]))] []),
    (.ite (.cmp .Eq (.nm 2) (.cst (.str "sum"))) [(.ret (.own 6 [(.fz (.nm 0)), (.fz (.nm 1))]))] []),
    (.ite (.cmp .Eq (.nm 2) (.cst (.str "either"))) [(.ret (.bop .And [(.cmp .Eq (.b1 .len (.nm 1)) (.cst (.int 3))), (.own 4 [(.fz (.nm 0)), (.fz (.ix (.nm 1) (.cst (.int 1))))]), (.own 4 [(.fz (.nm 0)), (.fz (.ix (.nm 1) (.cst (.int 2))))])]))] []),
    (.ret (.cst (.bl false)))]⟩
def d_check_gauges : Df := ⟨1, 1, [(.ite (.bop .Or [(.not (.own 0 [(.fz (.nm 0))])), (.not (.cmp2 .LtE .LtE (.cst (.int 1)) (.nm 0) (.cst (.int 5))))]) [.bad] [])]⟩
def d_check_bound : Df := ⟨2, 2, [(.ite (.not (.own 4 [(.fz (.nm 0)), (.fz (.nm 1))])) [.bad] [])]⟩
def d_check_rule : Df := ⟨2, 2, [(.ite (.not (.own 7 [(.fz (.nm 0)), (.fz (.nm 1))])) [.bad] [])]⟩
def d_is_beyond : Df := ⟨3, 3, [(.ret (.ite (.cmp .Eq (.nm 0) (.cst (.str "least"))) (.cmp .Gt (.nm 1) (.nm 2)) (.cmp .Lt (.nm 1) (.nm 2))))]⟩
def d_opposes : Df := ⟨8, 2, [(.asT [2, 3, 4] (.nm 0)),
    (.asT [5, 6, 7] (.nm 1)),
    (.ret (.bop .And [(.cmp .Eq (.nm 2) (.nm 5)), (.cmp .NotEq (.nm 3) (.nm 6)), (.own 11 [(.fz (.nm 3)), (.fz (.nm 4)), (.fz (.nm 7))])]))]⟩
def d_forced : Df := ⟨3, 3, [(.exp (.own 8 [(.fz (.nm 0))])),
    (.exp (.own 10 [(.fz (.nm 0)), (.fz (.nm 1))])),
    (.exp (.own 9 [(.fz (.nm 0)), (.fz (.nm 2))])),
    (.ret (.own 14 [(.fz (.nm 1)), (.fz (.nm 2))]))]⟩
def d_forced_by : Df := ⟨3, 2, [(.as1 2 (.ix (.nm 0) (.cst (.int 0)))),
    (.ite (.cmp .Eq (.nm 2) (.cst (.str "apart"))) [(.ret (.own 15 [(.fz (.nm 0)), (.fz (.nm 1))]))] []),
    (.ite (.cmp .Eq (.nm 2) (.cst (.str "sum"))) [(.ret (.own 16 [(.fz (.nm 0)), (.fz (.nm 1))]))] []),
    (.ite (.cmp .Eq (.nm 2) (.cst (.str "either"))) [(.ret (.own 17 [(.fz (.nm 0)), (.fz (.nm 1))]))] []),
    (.ret (.lst []))]⟩
def d_forced_by_apart : Df := ⟨9, 2, [(.asT [2, 3, 4, 5] (.nm 0)),
    (.asT [6, 7, 8] (.nm 1)),
    (.ite (.bop .And [(.cmp .Eq (.nm 6) (.nm 3)), (.cmp .Eq (.nm 7) (.cst (.str "least")))]) [(.ret (.lst [(.tup [(.nm 4), (.cst (.str "least")), (.bin .Sub (.nm 8) (.nm 5))])]))] []),
    (.ite (.bop .And [(.cmp .Eq (.nm 6) (.nm 4)), (.cmp .Eq (.nm 7) (.cst (.str "most")))]) [(.ret (.lst [(.tup [(.nm 3), (.cst (.str "most")), (.bin .Add (.nm 8) (.nm 5))])]))] []),
    (.ret (.lst []))]⟩
def d_forced_by_sum : Df := ⟨11, 2, [(.asT [3, 4, 5, 6, 7] (.nm 0)),
    (.asT [8, 9, 10] (.nm 1)),
    (.ite (.bop .Or [(.cmp .Eq (.nm 9) (.nm 6)), (.cmp .NotIn (.nm 8) (.tup [(.nm 4), (.nm 5)]))]) [(.ret (.lst []))] []),
    (.as1 2 (.ite (.cmp .Eq (.nm 8) (.nm 4)) (.nm 5) (.nm 4))),
    (.ret (.lst [(.tup [(.nm 2), (.nm 6), (.bin .Sub (.nm 7) (.nm 10))])]))]⟩
def d_forced_by_either : Df := ⟨8, 2, [(.asT [3, 4, 5] (.nm 0)),
    (.asT [6, 7] (.ite (.cmp .Lt (.nm 4) (.nm 5)) (.tup [(.nm 4), (.nm 5)]) (.tup [(.nm 5), (.nm 4)]))),
    (.as1 2 (.lst [])),
    (.ite (.own 12 [(.fz (.nm 1)), (.fz (.nm 7))]) [(.app (.nm 2) (.nm 6))] []),
    (.ite (.bop .And [(.cmp .NotEq (.nm 6) (.nm 7)), (.own 12 [(.fz (.nm 1)), (.fz (.nm 6))])]) [(.app (.nm 2) (.nm 7))] []),
    (.ret (.nm 2))]⟩
def d__law_bag : Df := ⟨1, 1, [(.ret (.lst [(.max (.cst (.int 0)) (.bin .Sub (.nm 0) (.bin .Pow (.cst (.int 10)) (.cst (.int 18))))), (.bin .Mod (.b1 .int (.nm 0)) (.cst (.int 1000000000000000177))), (.cst (.int 0))]))]⟩
def d__law_draw : Df := ⟨5, 2, [(.ite (.cmp .Gt (.ix (.nm 0) (.cst (.int 0))) (.cst (.int 0))) [(.as1 4 (.bin .Mod (.b1 .int (.ix (.nm 0) (.cst (.int 0)))) (.nm 1))), (.asI (.nm 0) (.cst (.int 0)) (.bin .FloorDiv (.ix (.nm 0) (.cst (.int 0))) (.nm 1))), (.ret (.nm 4))] []),
    (.asI (.nm 0) (.cst (.int 2)) (.bin .Add (.ix (.nm 0) (.cst (.int 2))) (.cst (.int 1)))),
    (.as1 2 (.ix (.nm 0) (.cst (.int 2)))),
    (.as1 3 (.bin .Add (.bin .Add (.bin .Mult (.bin .Mult (.cst (.int 3)) (.nm 2)) (.nm 2)) (.bin .Mult (.cst (.int 70001)) (.nm 2))) (.cst (.int 29)))),
    (.as1 3 (.bin .Mod (.b1 .int (.bin .Mult (.bin .Add (.bin .Add (.ix (.nm 0) (.cst (.int 1))) (.bin .Mult (.cst (.int 19)) (.nm 2))) (.cst (.int 5))) (.nm 3))) (.cst (.int 1000000000000000003)))),
    (.as1 3 (.bin .Mod (.b1 .int (.bin .Add (.bin .Add (.bin .Mult (.nm 3) (.nm 3)) (.bin .Mult (.cst (.int 524287)) (.nm 3))) (.nm 2))) (.cst (.int 2305843009213693951)))),
    (.ret (.bin .Mod (.bin .FloorDiv (.bin .Mod (.b1 .int (.bin .Add (.bin .Mult (.nm 3) (.nm 3)) (.bin .Mult (.cst (.int 8191)) (.nm 3)))) (.cst (.int 2305843009213693921))) (.cst (.int 4096))) (.nm 1)))]⟩
def d__law_number : Df := ⟨2, 1, [(.as1 1 (.own 19 [(.nm 0), (.fz (.cst (.int 5)))])),
    (.ite (.cmp .Lt (.nm 1) (.cst (.int 3))) [(.ret (.bin .Sub (.own 19 [(.nm 0), (.fz (.cst (.int 15)))]) (.cst (.int 7))))] []),
    (.ite (.cmp .Eq (.nm 1) (.cst (.int 3))) [(.ret (.bin .Sub (.own 19 [(.nm 0), (.fz (.cst (.int 4001)))]) (.cst (.int 2000))))] []),
    (.ret (.bin .Add (.bin .Sub (.own 19 [(.nm 0), (.fz (.bin .Sub (.bin .Mult (.cst (.int 8)) (.bin .Pow (.cst (.int 10)) (.cst (.int 11)))) (.cst (.int 1))))]) (.bin .Mult (.cst (.int 4)) (.bin .Pow (.cst (.int 10)) (.cst (.int 11))))) (.cst (.int 1))))]⟩
def d__law_way : Df := ⟨1, 1, [(.ret (.ix (.lst [(.cst (.str "least")), (.cst (.str "most"))]) (.own 19 [(.nm 0), (.fz (.cst (.int 2)))])))]⟩
def d__law_mark : Df := ⟨2, 2, [(.ret (.tup [(.own 19 [(.nm 0), (.fz (.nm 1))]), (.own 21 [(.nm 0)]), (.own 20 [(.nm 0)])]))]⟩
def d__law_two : Df := ⟨3, 2, [(.as1 2 (.own 19 [(.nm 0), (.fz (.bin .Sub (.nm 1) (.cst (.int 1))))])),
    (.ret (.tup [(.nm 2), (.bin .Add (.bin .Add (.nm 2) (.cst (.int 1))) (.own 19 [(.nm 0), (.fz (.bin .Sub (.bin .Sub (.nm 1) (.cst (.int 1))) (.nm 2)))]))]))]⟩
def d__law_term : Df := ⟨5, 2, [(.as1 2 (.own 19 [(.nm 0), (.fz (.cst (.int 7)))])),
    (.ite (.cmp .Eq (.nm 2) (.cst (.int 0))) [(.ret (.tup [(.cst (.str "bound")), (.own 22 [(.nm 0), (.fz (.nm 1))])]))] []),
    (.ite (.bop .Or [(.cmp .Lt (.nm 2) (.cst (.int 3))), (.cmp .Eq (.nm 1) (.cst (.int 1)))]) [(.ret (.tup [(.cst (.str "either")), (.own 22 [(.nm 0), (.fz (.nm 1))]), (.own 22 [(.nm 0), (.fz (.nm 1))])]))] []),
    (.asT [3, 4] (.own 23 [(.nm 0), (.fz (.nm 1))])),
    (.ite (.cmp .Eq (.nm 2) (.cst (.int 3))) [(.ret (.tup [(.cst (.str "apart")), (.nm 3), (.nm 4), (.own 20 [(.nm 0)])]))] []),
    (.ite (.cmp .Eq (.nm 2) (.cst (.int 4))) [(.ret (.tup [(.cst (.str "apart")), (.nm 4), (.nm 3), (.own 20 [(.nm 0)])]))] []),
    (.ret (.tup [(.cst (.str "sum")), (.nm 3), (.nm 4), (.own 21 [(.nm 0)]), (.own 20 [(.nm 0)])]))]⟩
def d__law_contrary : Df := ⟨1, 1, [(.ite (.cmp .Eq (.ix (.nm 0) (.cst (.int 1))) (.cst (.str "least"))) [(.ret (.tup [(.ix (.nm 0) (.cst (.int 0))), (.cst (.str "most")), (.bin .Sub (.ix (.nm 0) (.cst (.int 2))) (.cst (.int 1)))]))] []),
    (.ret (.tup [(.ix (.nm 0) (.cst (.int 0))), (.cst (.str "least")), (.bin .Add (.ix (.nm 0) (.cst (.int 2))) (.cst (.int 1)))]))]⟩
def d__law_oppose : Df := ⟨2, 2, [(.ite (.bop .Or [(.cmp .NotEq (.ix (.nm 0) (.cst (.int 0))) (.ix (.nm 1) (.cst (.int 0)))), (.cmp .Eq (.ix (.nm 0) (.cst (.int 1))) (.ix (.nm 1) (.cst (.int 1))))]) [(.ret (.cst (.bl false)))] []),
    (.ite (.cmp .Eq (.ix (.nm 0) (.cst (.int 1))) (.cst (.str "least"))) [(.ret (.cmp .Gt (.ix (.nm 0) (.cst (.int 2))) (.ix (.nm 1) (.cst (.int 2)))))] []),
    (.ret (.cmp .Gt (.ix (.nm 1) (.cst (.int 2))) (.ix (.nm 0) (.cst (.int 2)))))]⟩
def d__law_forced : Df := ⟨6, 2, [(.asT [3, 4, 5] (.nm 1)),
    (.ite (.bop .And [(.cmp .Eq (.ix (.nm 0) (.cst (.int 0))) (.cst (.str "apart"))), (.cmp .Eq (.nm 3) (.ix (.nm 0) (.cst (.int 1)))), (.cmp .Eq (.nm 4) (.cst (.str "least")))]) [(.ret (.lst [(.tup [(.ix (.nm 0) (.cst (.int 2))), (.cst (.str "least")), (.bin .Sub (.nm 5) (.ix (.nm 0) (.cst (.int 3))))])]))] []),
    (.ite (.bop .And [(.cmp .Eq (.ix (.nm 0) (.cst (.int 0))) (.cst (.str "apart"))), (.cmp .Eq (.nm 3) (.ix (.nm 0) (.cst (.int 2)))), (.cmp .Eq (.nm 4) (.cst (.str "most")))]) [(.ret (.lst [(.tup [(.ix (.nm 0) (.cst (.int 1))), (.cst (.str "most")), (.bin .Add (.nm 5) (.ix (.nm 0) (.cst (.int 3))))])]))] []),
    (.ite (.bop .And [(.cmp .Eq (.ix (.nm 0) (.cst (.int 0))) (.cst (.str "sum"))), (.cmp .In (.nm 3) (.lst [(.ix (.nm 0) (.cst (.int 1))), (.ix (.nm 0) (.cst (.int 2)))])), (.cmp .NotEq (.nm 4) (.ix (.nm 0) (.cst (.int 3))))]) [(.ret (.lst [(.tup [(.bin .Sub (.bin .Add (.ix (.nm 0) (.cst (.int 1))) (.ix (.nm 0) (.cst (.int 2)))) (.nm 3)), (.ix (.nm 0) (.cst (.int 3))), (.bin .Sub (.ix (.nm 0) (.cst (.int 4))) (.nm 5))])]))] []),
    (.as1 2 (.lst [])),
    (.ite (.bop .And [(.cmp .Eq (.ix (.nm 0) (.cst (.int 0))) (.cst (.str "either"))), (.own 26 [(.fz (.nm 1)), (.fz (.ix (.nm 0) (.cst (.int 1))))])]) [(.app (.nm 2) (.ix (.nm 0) (.cst (.int 2))))] []),
    (.ite (.bop .And [(.cmp .Eq (.ix (.nm 0) (.cst (.int 0))) (.cst (.str "either"))), (.own 26 [(.fz (.nm 1)), (.fz (.ix (.nm 0) (.cst (.int 2))))]), (.cmp .NotIn (.ix (.nm 0) (.cst (.int 1))) (.nm 2))]) [(.app (.nm 2) (.ix (.nm 0) (.cst (.int 1))))] []),
    (.ret (.ss (.nm 2)))]⟩
def d__law_beside : Df := ⟨6, 3, [(.ite (.bop .Or [(.cmp .Eq (.ix (.nm 2) (.cst (.int 0))) (.cst (.str "bound"))), (.cmp .Eq (.ix (.nm 2) (.cst (.int 0))) (.cst (.str "either")))]) [(.asT [3, 4, 5] (.ix (.nm 2) (.bin .Add (.cst (.int 1)) (.own 19 [(.nm 0), (.fz (.bin .Sub (.b1 .len (.nm 2)) (.cst (.int 1))))])))), (.ite (.cmp .Gt (.own 19 [(.nm 0), (.fz (.cst (.int 5)))]) (.cst (.int 0))) [(.as1 4 (.ix (.lst [(.cst (.str "most")), (.cst (.str "least"))]) (.b1 .int (.cmp .Eq (.nm 4) (.cst (.str "most"))))))] []), (.ret (.tup [(.nm 3), (.nm 4), (.bin .Sub (.bin .Add (.nm 5) (.own 19 [(.nm 0), (.fz (.cst (.int 7)))])) (.cst (.int 3)))]))] []),
    (.asT [3, 4] (.tup [(.ix (.nm 2) (.bin .Add (.cst (.int 1)) (.own 19 [(.nm 0), (.fz (.cst (.int 2)))]))), (.own 21 [(.nm 0)])])),
    (.ret (.tup [(.nm 3), (.nm 4), (.own 20 [(.nm 0)])]))]⟩
def d__law_far : Df := ⟨9, 2, [(.asT [3, 4] (.own 23 [(.nm 0), (.fz (.nm 1))])),
    (.asT [5, 6] (.tup [(.bin .Sub (.bin .Sub (.bin .Pow (.cst (.int 10)) (.cst (.int 12))) (.cst (.int 1))) (.own 19 [(.nm 0), (.fz (.cst (.int 3)))])), (.bin .Sub (.bin .Sub (.bin .Pow (.cst (.int 10)) (.cst (.int 12))) (.cst (.int 1))) (.own 19 [(.nm 0), (.fz (.cst (.int 3)))]))])),
    (.asT [7, 8] (.tup [(.bin .Sub (.bin .Mult (.cst (.int 2)) (.own 19 [(.nm 0), (.fz (.cst (.int 2)))])) (.cst (.int 1))), (.bin .Sub (.bin .Mult (.cst (.int 2)) (.own 19 [(.nm 0), (.fz (.cst (.int 2)))])) (.cst (.int 1)))])),
    (.as1 2 (.tup [(.ix (.lst [(.nm 3), (.nm 4)]) (.own 19 [(.nm 0), (.fz (.cst (.int 2)))])), (.own 21 [(.nm 0)]), (.bin .Mult (.nm 7) (.nm 6))])),
    (.ite (.cmp .Eq (.own 19 [(.nm 0), (.fz (.cst (.int 2)))]) (.cst (.int 0))) [(.ret (.tup [(.tup [(.cst (.str "sum")), (.nm 3), (.nm 4), (.own 21 [(.nm 0)]), (.bin .Mult (.nm 8) (.nm 5))]), (.nm 2)]))] []),
    (.ret (.tup [(.tup [(.cst (.str "apart")), (.nm 3), (.nm 4), (.bin .Mult (.nm 8) (.nm 5))]), (.nm 2)]))]⟩
def d_law : Df := ⟨11, 1, [(.for1 1 .seq [(.bin .Add (.lst [(.cst (.int 5091827364554637281909182736455463728190918273645546372819091827364554))]) (.nm 0))] [(.as1 2 (.own 18 [(.fz (.nm 1))])), (.asT [9, 10] (.tup [(.bin .Add (.cst (.int 1)) (.own 19 [(.nm 2), (.fz (.cst (.int 5)))])), (.own 19 [(.nm 2), (.fz (.cst (.int 4)))])])), (.as1 3 (.own 24 [(.nm 2), (.fz (.nm 9))])), (.as1 4 (.own 22 [(.nm 2), (.fz (.nm 9))])), (.ite (.cmp .Gt (.nm 10) (.cst (.int 0))) [(.as1 4 (.own 28 [(.nm 2), (.nm 9), (.fz (.nm 3))]))] []), (.ite (.bop .And [(.cmp .Gt (.nm 9) (.cst (.int 1))), (.cmp .Eq (.own 19 [(.nm 2), (.fz (.cst (.int 6)))]) (.cst (.int 0)))]) [(.asT [3, 4] (.own 29 [(.nm 2), (.fz (.nm 9))]))] []), (.as1 5 (.own 27 [(.fz (.nm 3)), (.fz (.nm 4))])), (.as1 6 (.own 13 [(.fz (.nm 9)), (.fz (.nm 3)), (.fz (.nm 4))])), (.ite (.cmp .NotEq (.b1 .repr (.nm 6)) (.b1 .repr (.nm 5))) [(.ret (.cst (.bl false)))] []), (.app (.nm 6) (.tup [(.cst (.int 0)), (.cst (.str "least")), (.cst (.int 0))])), (.ite (.cmp .NotEq (.b1 .repr (.ownK 13 [] [(.nm 4), (.nm 3), (.nm 9)] [2, 1, 0])) (.b1 .repr (.nm 5))) [(.ret (.cst (.bl false)))] []), (.as1 4 (.own 22 [(.nm 2), (.fz (.nm 9))])), (.as1 7 (.tup [(.cst (.str "either")), (.nm 4), (.nm 4)])), (.as1 8 (.own 25 [(.fz (.nm 4))])), (.ite (.cmp .NotEq (.b1 .repr (.lst [(.own 13 [(.fz (.nm 9)), (.fz (.nm 7)), (.fz (.nm 8))]), (.own 13 [(.fz (.nm 9)), (.fz (.nm 7)), (.fz (.nm 4))])])) (.b1 .repr (.lst [(.lst [(.nm 4)]), (.lst [])]))) [(.ret (.cst (.bl false)))] []), (.ite (.bop .And [(.cmp .Eq (.ix (.nm 3) (.cst (.int 0))) (.cst (.str "bound"))), (.cmp .NotEq (.nm 5) (.lst []))]) [(.ret (.cst (.bl false)))] [])]),
    (.ret (.cst (.bl true)))]⟩
def ds : List Df := [d_is_integer, d_is_tuple, d_fits_gauge, d_fits_way, d_fits_bound, d_fits_apart, d_fits_sum, d_fits_rule, d_check_gauges, d_check_bound, d_check_rule, d_is_beyond, d_opposes, d_forced, d_forced_by, d_forced_by_apart, d_forced_by_sum, d_forced_by_either, d__law_bag, d__law_draw, d__law_number, d__law_way, d__law_mark, d__law_two, d__law_term, d__law_contrary, d__law_oppose, d__law_forced, d__law_beside, d__law_far, d_law]
theorem e_is_integer : DfOk tab cG cB r_is_integer d_is_integer := ⟨by kernel_rfl, rfl, rfl⟩
theorem e_is_tuple : DfOk tab cG cB r_is_tuple d_is_tuple := ⟨by kernel_rfl, rfl, rfl⟩
theorem e_fits_gauge : DfOk tab cG cB r_fits_gauge d_fits_gauge := ⟨by kernel_rfl, rfl, rfl⟩
theorem e_fits_way : DfOk tab cG cB r_fits_way d_fits_way := ⟨by kernel_rfl, rfl, rfl⟩
theorem e_fits_bound : DfOk tab cG cB r_fits_bound d_fits_bound := ⟨by kernel_rfl, rfl, rfl⟩
theorem e_fits_apart : DfOk tab cG cB r_fits_apart d_fits_apart := ⟨by kernel_rfl, rfl, rfl⟩
theorem e_fits_sum : DfOk tab cG cB r_fits_sum d_fits_sum := ⟨by kernel_rfl, rfl, rfl⟩
theorem e_fits_rule : DfOk tab cG cB r_fits_rule d_fits_rule := ⟨by kernel_rfl, rfl, rfl⟩
theorem e_check_gauges : DfOk tab cG cB r_check_gauges d_check_gauges := ⟨by kernel_rfl, rfl, rfl⟩
theorem e_check_bound : DfOk tab cG cB r_check_bound d_check_bound := ⟨by kernel_rfl, rfl, rfl⟩
theorem e_check_rule : DfOk tab cG cB r_check_rule d_check_rule := ⟨by kernel_rfl, rfl, rfl⟩
theorem e_is_beyond : DfOk tab cG cB r_is_beyond d_is_beyond := ⟨by kernel_rfl, rfl, rfl⟩
theorem e_opposes : DfOk tab cG cB r_opposes d_opposes := ⟨by kernel_rfl, rfl, rfl⟩
theorem e_forced : DfOk tab cG cB r_forced d_forced := ⟨by kernel_rfl, rfl, rfl⟩
theorem e_forced_by : DfOk tab cG cB r_forced_by d_forced_by := ⟨by kernel_rfl, rfl, rfl⟩
theorem e_forced_by_apart : DfOk tab cG cB r_forced_by_apart d_forced_by_apart := ⟨by kernel_rfl, rfl, rfl⟩
theorem e_forced_by_sum : DfOk tab cG cB r_forced_by_sum d_forced_by_sum := ⟨by kernel_rfl, rfl, rfl⟩
theorem e_forced_by_either : DfOk tab cG cB r_forced_by_either d_forced_by_either := ⟨by kernel_rfl, rfl, rfl⟩
theorem e__law_bag : DfOk tab cG cB r__law_bag d__law_bag := ⟨by kernel_rfl, rfl, rfl⟩
theorem e__law_draw : DfOk tab cG cB r__law_draw d__law_draw := ⟨by kernel_rfl, rfl, rfl⟩
theorem e__law_number : DfOk tab cG cB r__law_number d__law_number := ⟨by kernel_rfl, rfl, rfl⟩
theorem e__law_way : DfOk tab cG cB r__law_way d__law_way := ⟨by kernel_rfl, rfl, rfl⟩
theorem e__law_mark : DfOk tab cG cB r__law_mark d__law_mark := ⟨by kernel_rfl, rfl, rfl⟩
theorem e__law_two : DfOk tab cG cB r__law_two d__law_two := ⟨by kernel_rfl, rfl, rfl⟩
theorem e__law_term : DfOk tab cG cB r__law_term d__law_term := ⟨by kernel_rfl, rfl, rfl⟩
theorem e__law_contrary : DfOk tab cG cB r__law_contrary d__law_contrary := ⟨by kernel_rfl, rfl, rfl⟩
theorem e__law_oppose : DfOk tab cG cB r__law_oppose d__law_oppose := ⟨by kernel_rfl, rfl, rfl⟩
theorem e__law_forced : DfOk tab cG cB r__law_forced d__law_forced := ⟨by kernel_rfl, rfl, rfl⟩
theorem e__law_beside : DfOk tab cG cB r__law_beside d__law_beside := ⟨by kernel_rfl, rfl, rfl⟩
theorem e__law_far : DfOk tab cG cB r__law_far d__law_far := ⟨by kernel_rfl, rfl, rfl⟩
theorem e_law : DfOk tab cG cB r_law d_law := ⟨by kernel_rfl, rfl, rfl⟩
theorem ds_ok : ∀ (i : Nat) (x : Str) (r : Rec), tab[i]? = some (x, r) → ∃ d, ds[i]? = some d ∧ DfOk tab cG cB r d := by
  intro i x r h
  match i, h with
  | 0, h => cases h; exact ⟨_, rfl, e_is_integer⟩
  | 1, h => cases h; exact ⟨_, rfl, e_is_tuple⟩
  | 2, h => cases h; exact ⟨_, rfl, e_fits_gauge⟩
  | 3, h => cases h; exact ⟨_, rfl, e_fits_way⟩
  | 4, h => cases h; exact ⟨_, rfl, e_fits_bound⟩
  | 5, h => cases h; exact ⟨_, rfl, e_fits_apart⟩
  | 6, h => cases h; exact ⟨_, rfl, e_fits_sum⟩
  | 7, h => cases h; exact ⟨_, rfl, e_fits_rule⟩
  | 8, h => cases h; exact ⟨_, rfl, e_check_gauges⟩
  | 9, h => cases h; exact ⟨_, rfl, e_check_bound⟩
  | 10, h => cases h; exact ⟨_, rfl, e_check_rule⟩
  | 11, h => cases h; exact ⟨_, rfl, e_is_beyond⟩
  | 12, h => cases h; exact ⟨_, rfl, e_opposes⟩
  | 13, h => cases h; exact ⟨_, rfl, e_forced⟩
  | 14, h => cases h; exact ⟨_, rfl, e_forced_by⟩
  | 15, h => cases h; exact ⟨_, rfl, e_forced_by_apart⟩
  | 16, h => cases h; exact ⟨_, rfl, e_forced_by_sum⟩
  | 17, h => cases h; exact ⟨_, rfl, e_forced_by_either⟩
  | 18, h => cases h; exact ⟨_, rfl, e__law_bag⟩
  | 19, h => cases h; exact ⟨_, rfl, e__law_draw⟩
  | 20, h => cases h; exact ⟨_, rfl, e__law_number⟩
  | 21, h => cases h; exact ⟨_, rfl, e__law_way⟩
  | 22, h => cases h; exact ⟨_, rfl, e__law_mark⟩
  | 23, h => cases h; exact ⟨_, rfl, e__law_two⟩
  | 24, h => cases h; exact ⟨_, rfl, e__law_term⟩
  | 25, h => cases h; exact ⟨_, rfl, e__law_contrary⟩
  | 26, h => cases h; exact ⟨_, rfl, e__law_oppose⟩
  | 27, h => cases h; exact ⟨_, rfl, e__law_forced⟩
  | 28, h => cases h; exact ⟨_, rfl, e__law_beside⟩
  | 29, h => cases h; exact ⟨_, rfl, e__law_far⟩
  | 30, h => cases h; exact ⟨_, rfl, e_law⟩
  | (i + 31), h => cases h
theorem apart : ∀ (x : Str) (r : Rec), tab.lookup x = some r → cB.contains x = false := by
  have h : tab.all (fun p => !cB.contains p.1) = true := by decide +kernel
  intro x r e
  obtain ⟨q, hq⟩ : ∃ q, (x, q) ∈ tab := ⟨r, lk_mem e⟩
  simpa using List.all_eq_true.mp h _ hq
end La
set_option maxHeartbeats 400000
namespace La
open PySem L2 Mx
variable {k : Nat} {n g : Int} {s : List Int}
theorem c_is_integer {i : Int} : Cl (phiN ds (k+1)) 0 [.imm (.int i)] (.imm (.bl true)) [none] := (Cl.cast (Cl.ret rfl (Bk.ret (St.ret rfl (Ev.bop (EvO.and (EvB.of (Ev.isI (EvD.imm (Ev.nm rfl)) rfl)) (EvO.one (EvB.of (Ev.not (EvB.of (Ev.isI (EvD.imm (Ev.nm rfl)) rfl))))))))) rfl) rfl)
theorem c_is_tuple {l : List D} : Cl (phiN ds (k+1)) 1 [.imm (.tup l)] (.imm (.bl true)) [none] := (Cl.cast (Cl.ret rfl (Bk.ret (St.ret rfl (Ev.tyEq (EvD.imm (Ev.nm rfl))))) rfl) rfl)
theorem c_fits_gauge {i : Int} : Cl (phiN ds (k+2)) 2 [.imm (.int n), .imm (.int i)] (.imm (.bl (decide (0 ≤ i) && decide (i < n)))) [none, none] := (Cl.cast (Cl.ret rfl (Bk.ret (St.ret rfl (Ev.bop (EvO.and (EvB.of (Ev.own (EvA.val rfl (EvD.imm (Ev.nm rfl)) EvA.nil) rfl c_is_integer rfl)) (EvO.one (EvB.of (Ev.cmp2 (EvD.imm Ev.cst) (EvD.imm (Ev.nm rfl)) (q_le rfl rfl) (EvD.imm (Ev.nm rfl)) (q_lt rfl rfl)))))))) rfl) rfl)
theorem c_ga (h : Ga n g) : Cl (phiN ds (k+2)) 2 [.imm (.int n), .imm (.int g)] (.imm (.bl true)) [none, none] := Cl.bl c_fits_gauge (by simp [h.lo, h.hi])
theorem c_fits_way {b : Bool} : Cl (phiN ds (k+1)) 3 [.imm (.str (wS b))] (.imm (.bl true)) [none] := by cases b <;> exact ⟨by kernel_rfl⟩
theorem c_fits_bound {p : Mk} (h : Ga n p.g) : Cl (phiN ds (k+3)) 4 [.imm (.int n), .imm p.d] (.imm (.bl true)) [none, none] := (Cl.cast (Cl.ret rfl (Bk.cons (St.iteF (EvB.cast (EvB.of (Ev.bop (EvO.or (EvB.of (Ev.not (EvB.of (Ev.own (EvA.val rfl (EvD.imm (Ev.nm rfl)) EvA.nil) rfl c_is_tuple rfl)))) (EvO.one (EvB.of (Ev.cmp (EvD.imm (Ev.b1 (EvR.nm rfl) (by first | exact f_len rfl | exact f_lenL rfl))) (EvR.of rfl (EvD.imm Ev.cst)) (q_nei rfl rfl))))))) rfl) Bk.nil) (Bk.cons (St.asT (EvD.imm (Ev.nm rfl)) rfl) (Bk.ret (St.ret rfl (Ev.bop (EvO.and (EvB.of (Ev.own (EvA.val rfl (EvD.imm (Ev.nm rfl)) (EvA.val rfl (EvD.imm (Ev.nm rfl)) EvA.nil)) rfl (c_ga h) rfl)) (EvO.and (EvB.of (Ev.own (EvA.val rfl (EvD.imm (Ev.nm rfl)) EvA.nil) rfl c_fits_way rfl)) (EvO.one (EvB.of (Ev.own (EvA.val rfl (EvD.imm (Ev.nm rfl)) EvA.nil) rfl c_is_integer rfl)))))))))) rfl) rfl)
theorem c_fits_apart {g h m : Int} (q : Ga n g ∧ Ga n h ∧ g ≠ h) : Cl (phiN ds (k+3)) 5 [.imm (.int n), .imm (Ru.ap g h m).d] (.imm (.bl true)) [none, none] := Cl.bl ((Cl.ret rfl (Bk.cons (St.iteF (EvB.cast (EvB.of (Ev.cmp (EvD.imm (Ev.b1 (EvR.nm rfl) (by first | exact f_len rfl | exact f_lenL rfl))) (EvR.of rfl (EvD.imm Ev.cst)) (q_nei rfl rfl))) rfl) Bk.nil) (Bk.cons (St.asT (EvD.imm (Ev.nm rfl)) rfl) (Bk.cons (St.as1 (Ev.bop (EvO.and (EvB.of (Ev.own (EvA.val rfl (EvD.imm (Ev.nm rfl)) (EvA.val rfl (EvD.imm (Ev.nm rfl)) EvA.nil)) rfl (c_ga q.1) rfl)) (EvO.one (EvB.of (Ev.own (EvA.val rfl (EvD.imm (Ev.nm rfl)) (EvA.val rfl (EvD.imm (Ev.nm rfl)) EvA.nil)) rfl (c_ga q.2.1) rfl))))) rfl) (Bk.ret (St.ret rfl (Ev.bop (EvO.and (EvB.of (Ev.nm rfl)) (EvO.and (EvB.of (Ev.cmp (EvD.imm (Ev.nm rfl)) (EvR.nm rfl) (by first | exact q_nei rfl rfl | exact q_ne rfl rfl))) (EvO.one (EvB.of (Ev.own (EvA.val rfl (EvD.imm (Ev.nm rfl)) EvA.nil) rfl c_is_integer rfl))))))))))) rfl)) (by simp [q.2.2])
theorem c_fits_sum {g h m : Int} {w : Bool} (q : Ga n g ∧ Ga n h ∧ g < h) : Cl (phiN ds (k+3)) 6 [.imm (.int n), .imm (Ru.sm g h w m).d] (.imm (.bl true)) [none, none] := Cl.bl ((Cl.ret rfl (Bk.cons (St.iteF (EvB.cast (EvB.of (Ev.cmp (EvD.imm (Ev.b1 (EvR.nm rfl) (by first | exact f_len rfl | exact f_lenL rfl))) (EvR.of rfl (EvD.imm Ev.cst)) (q_nei rfl rfl))) rfl) Bk.nil) (Bk.cons (St.asT (EvD.imm (Ev.nm rfl)) rfl) (Bk.cons (St.as1 (Ev.bop (EvO.and (EvB.of (Ev.own (EvA.val rfl (EvD.imm (Ev.nm rfl)) (EvA.val rfl (EvD.imm (Ev.nm rfl)) EvA.nil)) rfl (c_ga q.1) rfl)) (EvO.one (EvB.of (Ev.own (EvA.val rfl (EvD.imm (Ev.nm rfl)) (EvA.val rfl (EvD.imm (Ev.nm rfl)) EvA.nil)) rfl (c_ga q.2.1) rfl))))) rfl) (Bk.ret (St.ret rfl (Ev.bop (EvO.and (EvB.of (Ev.nm rfl)) (EvO.and (EvB.of (Ev.cmp (EvD.imm (Ev.nm rfl)) (EvR.nm rfl) (q_lt rfl rfl))) (EvO.and (EvB.of (Ev.own (EvA.val rfl (EvD.imm (Ev.nm rfl)) EvA.nil) rfl c_fits_way rfl)) (EvO.one (EvB.of (Ev.own (EvA.val rfl (EvD.imm (Ev.nm rfl)) EvA.nil) rfl c_is_integer rfl)))))))))))) rfl)) (by simp [q.2.2])
theorem nBA : decide (("apart" : Str) = "bound") = false := by decide +kernel
theorem nBS : decide (("sum" : Str) = "bound") = false := by decide +kernel
theorem nBE : decide (("either" : Str) = "bound") = false := by decide +kernel
theorem nAS : decide (("sum" : Str) = "apart") = false := by decide +kernel
theorem nAE : decide (("either" : Str) = "apart") = false := by decide +kernel
theorem nSE : decide (("either" : Str) = "sum") = false := by decide +kernel
theorem yy {x : Str} : decide (x = x) = true := decide_eq_true rfl
theorem c_fits_rule {r : Ru} (h : r.ok n) : Cl (phiN ds (k+4)) 7 [.imm (.int n), .imm r.d] (.imm (.bl true)) [none, none] := by
  cases r with
  | bd p => exact (Cl.cast (Cl.ret rfl (Bk.cons (St.iteF (EvB.cast (EvB.of (Ev.bop (EvO.or (EvB.of (Ev.not (EvB.of (Ev.own (EvA.val rfl (EvD.imm (Ev.nm rfl)) EvA.nil) rfl c_is_tuple rfl)))) (EvO.one (EvB.of (Ev.cmp (EvD.imm (Ev.b1 (EvR.nm rfl) (by first | exact f_len rfl | exact f_lenL rfl))) (EvR.of rfl (EvD.imm Ev.cst)) (q_int rfl rfl))))))) rfl) Bk.nil) (Bk.cons (St.as1 (Ev.ixi rfl (EvD.imm (Ev.nm rfl)) (EvD.imm Ev.cst) rfl rfl) rfl) (Bk.ret (St.iteT (EvB.cast (EvB.of (Ev.cmp (EvD.imm (Ev.nm rfl)) (EvR.of rfl (EvD.imm Ev.cst)) (q_str rfl rfl))) yy) (Bk.ret (St.ret rfl (Ev.bop (EvO.and (EvB.of (Ev.cmp (EvD.imm (Ev.b1 (EvR.nm rfl) (by first | exact f_len rfl | exact f_lenL rfl))) (EvR.of rfl (EvD.imm Ev.cst)) (q_int rfl rfl))) (EvO.one (EvB.of (Ev.own (EvA.val rfl (EvD.imm (Ev.nm rfl)) (EvA.val rfl (EvD.any (Ev.ixi rfl (EvD.imm (Ev.nm rfl)) (EvD.imm Ev.cst) rfl rfl)) EvA.nil)) rfl (c_fits_bound h) rfl))))))))))) rfl) rfl)
  | ap g h' m => exact (Cl.cast (Cl.ret rfl (Bk.cons (St.iteF (EvB.cast (EvB.of (Ev.bop (EvO.or (EvB.of (Ev.not (EvB.of (Ev.own (EvA.val rfl (EvD.imm (Ev.nm rfl)) EvA.nil) rfl c_is_tuple rfl)))) (EvO.one (EvB.of (Ev.cmp (EvD.imm (Ev.b1 (EvR.nm rfl) (by first | exact f_len rfl | exact f_lenL rfl))) (EvR.of rfl (EvD.imm Ev.cst)) (q_int rfl rfl))))))) rfl) Bk.nil) (Bk.cons (St.as1 (Ev.ixi rfl (EvD.imm (Ev.nm rfl)) (EvD.imm Ev.cst) rfl rfl) rfl) (Bk.cons (St.iteF (EvB.cast (EvB.of (Ev.cmp (EvD.imm (Ev.nm rfl)) (EvR.of rfl (EvD.imm Ev.cst)) (q_str rfl rfl))) nBA) Bk.nil) (Bk.ret (St.iteT (EvB.cast (EvB.of (Ev.cmp (EvD.imm (Ev.nm rfl)) (EvR.of rfl (EvD.imm Ev.cst)) (q_str rfl rfl))) yy) (Bk.ret (St.ret rfl (Ev.own (EvA.val rfl (EvD.imm (Ev.nm rfl)) (EvA.val rfl (EvD.imm (Ev.nm rfl)) EvA.nil)) rfl (c_fits_apart h) rfl)))))))) rfl) rfl)
  | sm g h' w m => exact (Cl.cast (Cl.ret rfl (Bk.cons (St.iteF (EvB.cast (EvB.of (Ev.bop (EvO.or (EvB.of (Ev.not (EvB.of (Ev.own (EvA.val rfl (EvD.imm (Ev.nm rfl)) EvA.nil) rfl c_is_tuple rfl)))) (EvO.one (EvB.of (Ev.cmp (EvD.imm (Ev.b1 (EvR.nm rfl) (by first | exact f_len rfl | exact f_lenL rfl))) (EvR.of rfl (EvD.imm Ev.cst)) (q_int rfl rfl))))))) rfl) Bk.nil) (Bk.cons (St.as1 (Ev.ixi rfl (EvD.imm (Ev.nm rfl)) (EvD.imm Ev.cst) rfl rfl) rfl) (Bk.cons (St.iteF (EvB.cast (EvB.of (Ev.cmp (EvD.imm (Ev.nm rfl)) (EvR.of rfl (EvD.imm Ev.cst)) (q_str rfl rfl))) nBS) Bk.nil) (Bk.cons (St.iteF (EvB.cast (EvB.of (Ev.cmp (EvD.imm (Ev.nm rfl)) (EvR.of rfl (EvD.imm Ev.cst)) (q_str rfl rfl))) nAS) Bk.nil) (Bk.ret (St.iteT (EvB.cast (EvB.of (Ev.cmp (EvD.imm (Ev.nm rfl)) (EvR.of rfl (EvD.imm Ev.cst)) (q_str rfl rfl))) yy) (Bk.ret (St.ret rfl (Ev.own (EvA.val rfl (EvD.imm (Ev.nm rfl)) (EvA.val rfl (EvD.imm (Ev.nm rfl)) EvA.nil)) rfl (c_fits_sum h) rfl))))))))) rfl) rfl)
  | ei p q => exact (Cl.cast (Cl.ret rfl (Bk.cons (St.iteF (EvB.cast (EvB.of (Ev.bop (EvO.or (EvB.of (Ev.not (EvB.of (Ev.own (EvA.val rfl (EvD.imm (Ev.nm rfl)) EvA.nil) rfl c_is_tuple rfl)))) (EvO.one (EvB.of (Ev.cmp (EvD.imm (Ev.b1 (EvR.nm rfl) (by first | exact f_len rfl | exact f_lenL rfl))) (EvR.of rfl (EvD.imm Ev.cst)) (q_int rfl rfl))))))) rfl) Bk.nil) (Bk.cons (St.as1 (Ev.ixi rfl (EvD.imm (Ev.nm rfl)) (EvD.imm Ev.cst) rfl rfl) rfl) (Bk.cons (St.iteF (EvB.cast (EvB.of (Ev.cmp (EvD.imm (Ev.nm rfl)) (EvR.of rfl (EvD.imm Ev.cst)) (q_str rfl rfl))) nBE) Bk.nil) (Bk.cons (St.iteF (EvB.cast (EvB.of (Ev.cmp (EvD.imm (Ev.nm rfl)) (EvR.of rfl (EvD.imm Ev.cst)) (q_str rfl rfl))) nAE) Bk.nil) (Bk.cons (St.iteF (EvB.cast (EvB.of (Ev.cmp (EvD.imm (Ev.nm rfl)) (EvR.of rfl (EvD.imm Ev.cst)) (q_str rfl rfl))) nSE) Bk.nil) (Bk.ret (St.iteT (EvB.cast (EvB.of (Ev.cmp (EvD.imm (Ev.nm rfl)) (EvR.of rfl (EvD.imm Ev.cst)) (q_str rfl rfl))) yy) (Bk.ret (St.ret rfl (Ev.bop (EvO.and (EvB.of (Ev.cmp (EvD.imm (Ev.b1 (EvR.nm rfl) (by first | exact f_len rfl | exact f_lenL rfl))) (EvR.of rfl (EvD.imm Ev.cst)) (q_int rfl rfl))) (EvO.and (EvB.of (Ev.own (EvA.val rfl (EvD.imm (Ev.nm rfl)) (EvA.val rfl (EvD.any (Ev.ixi rfl (EvD.imm (Ev.nm rfl)) (EvD.imm Ev.cst) rfl rfl)) EvA.nil)) rfl (c_fits_bound h.1) rfl)) (EvO.one (EvB.of (Ev.own (EvA.val rfl (EvD.imm (Ev.nm rfl)) (EvA.val rfl (EvD.any (Ev.ixi rfl (EvD.imm (Ev.nm rfl)) (EvD.imm Ev.cst) rfl rfl)) EvA.nil)) rfl (c_fits_bound h.2) rfl))))))))))))))) rfl) rfl)
theorem c_check_gauges (h : 1 ≤ n ∧ n ≤ 5) : Cl (phiN ds (k+2)) 8 [.imm (.int n)] (.imm .non) [none] := (Cl.cast (Cl.end rfl (Bk.cons (St.iteF (EvB.cast (EvB.of (Ev.bop (EvO.or (EvB.of (Ev.not (EvB.of (Ev.own (EvA.val rfl (EvD.imm (Ev.nm rfl)) EvA.nil) rfl c_is_integer rfl)))) (EvO.one (EvB.of (Ev.not (EvB.of (Ev.cmp2 (EvD.imm Ev.cst) (EvD.imm (Ev.nm rfl)) (q_le rfl rfl) (EvD.imm Ev.cst) (q_le rfl rfl))))))))) (by simp; omega)) Bk.nil) Bk.nil) rfl) rfl)
theorem c_check_rule {r : Ru} (h : r.ok n) : Cl (phiN ds (k+5)) 10 [.imm (.int n), .imm r.d] (.imm .non) [none, none] := (Cl.cast (Cl.end rfl (Bk.cons (St.iteF (EvB.cast (EvB.of (Ev.not (EvB.of (Ev.own (EvA.val rfl (EvD.imm (Ev.nm rfl)) (EvA.val rfl (EvD.imm (Ev.nm rfl)) EvA.nil)) rfl (c_fits_rule h) rfl)))) rfl) Bk.nil) Bk.nil) rfl) rfl)
theorem c_is_beyond {b : Bool} {a m : Int} : Cl (phiN ds (k+1)) 11 [.imm (.str (wS b)), .imm (.int a), .imm (.int m)] (.imm (.bl (if b then decide (m < a) else decide (a < m)))) [none, none, none] := by
  cases b
  · exact (Cl.cast (Cl.ret rfl (Bk.ret (St.ret rfl (Ev.iteF (EvB.cast (EvB.of (Ev.cmp (EvD.imm (Ev.nm rfl)) (EvR.of rfl (EvD.imm Ev.cst)) (q_str rfl rfl))) (wS_M rfl)) (Ev.cmp (EvD.imm (Ev.nm rfl)) (EvR.nm rfl) (q_lt rfl rfl))))) rfl) rfl)
  · exact (Cl.cast (Cl.ret rfl (Bk.ret (St.ret rfl (Ev.iteT (EvB.cast (EvB.of (Ev.cmp (EvD.imm (Ev.nm rfl)) (EvR.of rfl (EvD.imm Ev.cst)) (q_str rfl rfl))) (wS_L rfl)) (Ev.cmp (EvD.imm (Ev.nm rfl)) (EvR.nm rfl) (q_gt rfl rfl))))) rfl) rfl)
end La
set_option maxHeartbeats 400000
namespace La
open PySem L2 Mx
variable {k : Nat} {n w : Int} {s : List Int} {l : List D} {N : Nat}
theorem bag0 {c : Int} : ∃ l, (∀ k, Cl (phiN ds (k+1)) 18 [.imm (.int c)] (.cel l) [none]) ∧ Bag 0 l :=
  ⟨[.int (if c - 10 ^ 18 > 0 then c - 10 ^ 18 else 0), .int (c % 1000000000000000177), .int 0], fun k => (Cl.cast (Cl.ret rfl (Bk.ret (St.ret rfl (Ev.lst (EvL.cons (EvD.imm (Ev.max (EvL.cons (EvD.imm Ev.cst) (EvL.cons (EvD.any (Ev.bin (EvD.imm (Ev.nm rfl)) (EvD.any (Ev.bin (EvD.imm Ev.cst) (EvD.imm Ev.cst) (b_pow (p := 10) (q := 18) rfl rfl ⟨by decide, by decide⟩))) (b_sub rfl rfl))) EvL.nil)) rfl rfl)) (EvL.cons (EvD.any (Ev.bin (EvD.imm (Ev.b1 (EvR.nm rfl) (f_int rfl))) (EvD.imm Ev.cst) (b_mod rfl rfl (by first | decide | omega)))) (EvL.cons (EvD.imm Ev.cst) EvL.nil))) (show 3 ≤ line by decide)))) rfl) rfl), _, _, _, rfl, ⟨Int.emod_nonneg _ (by decide), Int.emod_lt_of_pos _ (by decide)⟩, by omega, by omega⟩
theorem drawA {a b c u : Int} (h : 0 < a) (hu : 0 < u ∧ u < 2 ^ 64) : Cl (phiN ds (k+1)) 19 [.cel [.int a, .int b, .int c], .imm (.int u)] (.imm (.int (a % u))) [some [.int (a / u), .int b, .int c], none] :=
  (Cl.cast (Cl.ret rfl (Bk.ret (St.iteT (EvB.cast (EvB.of (Ev.cmp (EvD.any (Ev.ixc rfl (EvD.imm Ev.cst) rfl rfl rfl)) (EvR.of rfl (EvD.imm Ev.cst)) (q_gt rfl rfl))) (decide_eq_true h)) (Bk.cons (St.as1 (Ev.bin (EvD.imm (Ev.b1 (EvR.of rfl (EvD.any (Ev.ixc rfl (EvD.imm Ev.cst) rfl rfl rfl))) (f_int rfl))) (EvD.imm (Ev.nm rfl)) (b_mod rfl rfl (by first | decide | omega))) rfl) (Bk.cons (St.asI (EvD.any (Ev.bin (EvD.any (Ev.ixc rfl (EvD.imm Ev.cst) rfl rfl rfl)) (EvD.imm (Ev.nm rfl)) (b_fd rfl rfl (by first | decide | omega)))) rfl (EvD.imm Ev.cst) rfl rfl rfl) (Bk.ret (St.ret rfl (Ev.nm rfl))))))) rfl) rfl)
theorem drawB {a b c u : Int} (h : ¬ 0 < a) (hu : 0 < u ∧ u < 2 ^ 64) (hb : 0 ≤ b ∧ b < 1000000000000000177) (hc : 0 ≤ c ∧ c < 2 ^ 40) : ∃ x : Int, ∀ k : Nat, Cl (phiN ds (k+1)) 19 [.cel [.int a, .int b, .int c], .imm (.int u)] (.imm (.int (x % u))) [some [.int a, .int b, .int (c + 1)], none] :=
  ⟨_, fun k => (Cl.cast (Cl.ret rfl (Bk.cons (St.iteF (EvB.cast (EvB.of (Ev.cmp (EvD.any (Ev.ixc rfl (EvD.imm Ev.cst) rfl rfl rfl)) (EvR.of rfl (EvD.imm Ev.cst)) (q_gt rfl rfl))) (decide_eq_false h)) Bk.nil) (Bk.cons (St.asI (EvD.any (Ev.bin (EvD.any (Ev.ixc rfl (EvD.imm Ev.cst) rfl rfl rfl)) (EvD.imm Ev.cst) (b_add rfl rfl))) rfl (EvD.imm Ev.cst) rfl rfl rfl) (Bk.cons (St.as1 (Ev.ixc rfl (EvD.imm Ev.cst) rfl rfl rfl) rfl) (Bk.cons (St.as1 (Ev.bin (EvD.any (Ev.bin (EvD.any (Ev.bin (EvD.any (Ev.bin (EvD.imm Ev.cst) (EvD.imm (Ev.nm rfl)) (b_mul rfl rfl (mulL (by decide))))) (EvD.imm (Ev.nm rfl)) (b_mul rfl rfl (mulR (by omega))))) (EvD.any (Ev.bin (EvD.imm Ev.cst) (EvD.imm (Ev.nm rfl)) (b_mul rfl rfl (mulL (by decide))))) (b_add rfl rfl))) (EvD.imm Ev.cst) (b_add rfl rfl)) rfl) (Bk.cons (St.as1 (Ev.bin (EvD.imm (Ev.b1 (EvR.of rfl (EvD.any (Ev.bin (EvD.any (Ev.bin (EvD.any (Ev.bin (EvD.any (Ev.ixc rfl (EvD.imm Ev.cst) rfl rfl rfl)) (EvD.any (Ev.bin (EvD.imm Ev.cst) (EvD.imm (Ev.nm rfl)) (b_mul rfl rfl (mulL (by decide))))) (b_add rfl rfl))) (EvD.imm Ev.cst) (b_add rfl rfl))) (EvD.imm (Ev.nm rfl)) (b_mul rfl rfl (mulL (by omega)))))) (f_int rfl))) (EvD.imm Ev.cst) (b_mod rfl rfl (by first | decide | omega))) rfl) (Bk.cons (St.as1 (Ev.bin (EvD.imm (Ev.b1 (EvR.of rfl (EvD.any (Ev.bin (EvD.any (Ev.bin (EvD.any (Ev.bin (EvD.imm (Ev.nm rfl)) (EvD.imm (Ev.nm rfl)) (b_mul rfl rfl (mulL (by omega))))) (EvD.any (Ev.bin (EvD.imm Ev.cst) (EvD.imm (Ev.nm rfl)) (b_mul rfl rfl (mulL (by decide))))) (b_add rfl rfl))) (EvD.imm (Ev.nm rfl)) (b_add rfl rfl)))) (f_int rfl))) (EvD.imm Ev.cst) (b_mod rfl rfl (by first | decide | omega))) rfl) (Bk.ret (St.ret rfl (Ev.bin (EvD.any (Ev.bin (EvD.any (Ev.bin (EvD.imm (Ev.b1 (EvR.of rfl (EvD.any (Ev.bin (EvD.any (Ev.bin (EvD.imm (Ev.nm rfl)) (EvD.imm (Ev.nm rfl)) (b_mul rfl rfl (mulL (by omega))))) (EvD.any (Ev.bin (EvD.imm Ev.cst) (EvD.imm (Ev.nm rfl)) (b_mul rfl rfl (mulL (by decide))))) (b_add rfl rfl)))) (f_int rfl))) (EvD.imm Ev.cst) (b_mod rfl rfl (by first | decide | omega)))) (EvD.imm Ev.cst) (b_fd rfl rfl (by first | decide | omega)))) (EvD.imm (Ev.nm rfl)) (b_mod rfl rfl (by first | decide | omega))))))))))) rfl) rfl)⟩
theorem draw {u : Int} (hB : Bag N l) (hn : N < Big) (hu : 0 < u ∧ u < 2 ^ 64) : ∃ (r : Int) (l' : List D), (∀ k, Cl (phiN ds (k+1)) 19 [.cel l, .imm (.int u)] (.imm (.int r)) [some l', none]) ∧ 0 ≤ r ∧ r < u ∧ Bag (N + 1) l' := by
  obtain ⟨a, b, c, rfl, hb, hc⟩ := hB
  by_cases h : 0 < a
  · exact ⟨_, _, fun k => drawA h hu, Int.emod_nonneg _ (by omega), Int.emod_lt_of_pos _ hu.1, a / u, b, c, rfl, hb, by omega, by omega⟩
  · obtain ⟨x, hx⟩ := drawB h hu hb ⟨hc.1, by unfold Big at hn; omega⟩
    exact ⟨_, _, hx, Int.emod_nonneg _ (by omega), Int.emod_lt_of_pos _ hu.1, a, b, c + 1, rfl, hb, by omega, by omega⟩
theorem number (hB : Bag N l) (hn : N + 2 < Big) : ∃ (r : Int) (l' : List D), (∀ k, Cl (phiN ds (k+2)) 20 [.cel l] (.imm (.int r)) [some l']) ∧ (-400000000000 ≤ r ∧ r ≤ 400000000000) ∧ Bag (N + 2) l' := by
  obtain ⟨s, l1, h1, s0, s1, B1⟩ := draw (u := 5) hB (by omega) (by decide)
  by_cases a : s < 3
  · obtain ⟨r, l2, h2, r0, r1, B2⟩ := draw (u := 15) B1 (by omega) (by decide)
    exact ⟨_, _, fun k => (Cl.cast (Cl.ret rfl (Bk.cons (St.as1 (Ev.own (EvA.slot rfl (EvA.val rfl (EvD.imm Ev.cst) EvA.nil)) rfl (h1 _) rfl) rfl) (Bk.ret (St.iteT (EvB.cast (EvB.of (Ev.cmp (EvD.imm (Ev.nm rfl)) (EvR.of rfl (EvD.imm Ev.cst)) (q_lt rfl rfl))) (decide_eq_true a)) (Bk.ret (St.ret rfl (Ev.bin (EvD.any (Ev.own (EvA.slot rfl (EvA.val rfl (EvD.imm Ev.cst) EvA.nil)) rfl (h2 _) rfl)) (EvD.imm Ev.cst) (b_sub rfl rfl))))))) rfl) rfl), by omega, B2⟩
  · by_cases b : s = 3
    · obtain ⟨r, l2, h2, r0, r1, B2⟩ := draw (u := 4001) B1 (by omega) (by decide)
      exact ⟨_, _, fun k => (Cl.cast (Cl.ret rfl (Bk.cons (St.as1 (Ev.own (EvA.slot rfl (EvA.val rfl (EvD.imm Ev.cst) EvA.nil)) rfl (h1 _) rfl) rfl) (Bk.cons (St.iteF (EvB.cast (EvB.of (Ev.cmp (EvD.imm (Ev.nm rfl)) (EvR.of rfl (EvD.imm Ev.cst)) (q_lt rfl rfl))) (decide_eq_false a)) Bk.nil) (Bk.ret (St.iteT (EvB.cast (EvB.of (Ev.cmp (EvD.imm (Ev.nm rfl)) (EvR.of rfl (EvD.imm Ev.cst)) (q_int rfl rfl))) (decide_eq_true b)) (Bk.ret (St.ret rfl (Ev.bin (EvD.any (Ev.own (EvA.slot rfl (EvA.val rfl (EvD.imm Ev.cst) EvA.nil)) rfl (h2 _) rfl)) (EvD.imm Ev.cst) (b_sub rfl rfl)))))))) rfl) rfl), by omega, B2⟩
    · obtain ⟨r, l2, h2, r0, r1, B2⟩ := draw (u := 8 * ((10 : Nat) : Int) ^ 11 - 1) B1 (by omega) (by decide)
      refine ⟨_, _, fun k => (Cl.cast (Cl.ret rfl (Bk.cons (St.as1 (Ev.own (EvA.slot rfl (EvA.val rfl (EvD.imm Ev.cst) EvA.nil)) rfl (h1 _) rfl) rfl) (Bk.cons (St.iteF (EvB.cast (EvB.of (Ev.cmp (EvD.imm (Ev.nm rfl)) (EvR.of rfl (EvD.imm Ev.cst)) (q_lt rfl rfl))) (decide_eq_false a)) Bk.nil) (Bk.cons (St.iteF (EvB.cast (EvB.of (Ev.cmp (EvD.imm (Ev.nm rfl)) (EvR.of rfl (EvD.imm Ev.cst)) (q_int rfl rfl))) (decide_eq_false b)) Bk.nil) (Bk.ret (St.ret rfl (Ev.bin (EvD.any (Ev.bin (EvD.any (Ev.own (EvA.slot rfl (EvA.val rfl (EvD.any (Ev.bin (EvD.any (Ev.bin (EvD.imm Ev.cst) (EvD.any (Ev.bin (EvD.imm Ev.cst) (EvD.imm Ev.cst) (b_pow (p := 10) (q := 11) rfl rfl ⟨by decide, by decide⟩))) (b_mul rfl rfl (mulL (by decide))))) (EvD.imm Ev.cst) (b_sub rfl rfl))) EvA.nil)) rfl (h2 _) rfl)) (EvD.any (Ev.bin (EvD.imm Ev.cst) (EvD.any (Ev.bin (EvD.imm Ev.cst) (EvD.imm Ev.cst) (b_pow (p := 10) (q := 11) rfl rfl ⟨by decide, by decide⟩))) (b_mul rfl rfl (mulL (by decide))))) (b_sub rfl rfl))) (EvD.imm Ev.cst) (b_add rfl rfl))))))) rfl) rfl), ?_, B2⟩
      have t : (((10 : Nat) : Int)) ^ 11 = 100000000000 := by decide
      rw [t] at r1 ⊢
      omega
theorem way (hB : Bag N l) (hn : N + 2 < Big) : ∃ (b : Bool) (l' : List D), (∀ k, Cl (phiN ds (k+2)) 21 [.cel l] (.imm (.str (wS b))) [some l']) ∧ Bag (N + 1) l' := by
  obtain ⟨s, l1, h1, s0, s1, B1⟩ := draw (u := 2) hB (by omega) (by decide)
  have : s = 0 ∨ s = 1 := by omega
  rcases this with rfl | rfl
  · exact ⟨true, _, fun k => (Cl.cast (Cl.ret rfl (Bk.ret (St.ret rfl (Ev.ixi rfl (EvD.cel (Ev.lst (EvL.cons (EvD.imm Ev.cst) (EvL.cons (EvD.imm Ev.cst) EvL.nil)) (show 2 ≤ line by decide))) (EvD.any (Ev.own (EvA.slot rfl (EvA.val rfl (EvD.imm Ev.cst) EvA.nil)) rfl (h1 _) rfl)) rfl rfl))) rfl) rfl), B1⟩
  · exact ⟨false, _, fun k => (Cl.cast (Cl.ret rfl (Bk.ret (St.ret rfl (Ev.ixi rfl (EvD.cel (Ev.lst (EvL.cons (EvD.imm Ev.cst) (EvL.cons (EvD.imm Ev.cst) EvL.nil)) (show 2 ≤ line by decide))) (EvD.any (Ev.own (EvA.slot rfl (EvA.val rfl (EvD.imm Ev.cst) EvA.nil)) rfl (h1 _) rfl)) rfl rfl))) rfl) rfl), B1⟩
theorem mark (hB : Bag N l) (hn : N + 5 < Big) (hw : 1 ≤ w ∧ w ≤ 5) : ∃ (p : Mk) (l' : List D), (∀ k, Cl (phiN ds (k+3)) 22 [.cel l, .imm (.int w)] (.imm p.d) [some l', none]) ∧ Ga w p.g ∧ (-400000000000 ≤ p.m ∧ p.m ≤ 400000000000) ∧ Bag (N + 4) l' := by
  obtain ⟨g, l1, h1, g0, g1, B1⟩ := draw (u := w) hB (by omega) (by omega)
  obtain ⟨x, l2, h2, B2⟩ := way B1 (by omega)
  obtain ⟨m, l3, h3, hm, B3⟩ := number B2 (by omega)
  exact ⟨⟨g, x, m⟩, _, fun k => (Cl.cast (Cl.ret rfl (Bk.ret (St.ret rfl (Ev.tup (EvL.cons (EvD.any (Ev.own (EvA.slot rfl (EvA.val rfl (EvD.imm (Ev.nm rfl)) EvA.nil)) rfl (h1 _) rfl)) (EvL.cons (EvD.any (Ev.own (EvA.slot rfl EvA.nil) rfl (h2 _) rfl)) (EvL.cons (EvD.any (Ev.own (EvA.slot rfl EvA.nil) rfl (h3 _) rfl)) EvL.nil))) (show 3 ≤ line by decide)))) rfl) rfl), ⟨g0, g1⟩, hm, B3⟩
end La
set_option maxHeartbeats 0
namespace La
open PySem L2 Mx
variable {k : Nat} {n : Int}
theorem c_check_bound {p : Mk} (h : Ga n p.g) : Cl (phiN ds (k+4)) 9 [.imm (.int n), .imm p.d] (.imm .non) [none, none] := (Cl.cast (Cl.end rfl (Bk.cons (St.iteF (EvB.cast (EvB.of (Ev.not (EvB.of (Ev.own (EvA.val rfl (EvD.imm (Ev.nm rfl)) (EvA.val rfl (EvD.imm (Ev.nm rfl)) EvA.nil)) rfl (c_fits_bound h) rfl)))) rfl) Bk.nil) Bk.nil) rfl) rfl)
theorem c_opposes {p q : Mk} : Cl (phiN ds (k+2)) 12 [.imm p.d, .imm q.d] (.imm (.bl (p.op q))) [none, none] :=
  Cl.bl ((Cl.ret rfl (Bk.cons (St.asT (EvD.imm (Ev.nm rfl)) rfl) (Bk.cons (St.asT (EvD.imm (Ev.nm rfl)) rfl) (Bk.ret (St.ret rfl (Ev.bop (EvO.and (EvB.of (Ev.cmp (EvD.imm (Ev.nm rfl)) (EvR.nm rfl) (q_int rfl rfl))) (EvO.and (EvB.of (Ev.cmp (EvD.imm (Ev.nm rfl)) (EvR.nm rfl) (q_ne rfl rfl))) (EvO.one (EvB.of (Ev.own (EvA.val rfl (EvD.imm (Ev.nm rfl)) (EvA.val rfl (EvD.imm (Ev.nm rfl)) (EvA.val rfl (EvD.imm (Ev.nm rfl)) EvA.nil))) rfl c_is_beyond rfl)))))))))) rfl)) (by rw [wS_inj]; rfl)
theorem c_fb_apart {g h m : Int} {p : Mk} : Cl (phiN ds (k+1)) 15 [.imm (Ru.ap g h m).d, .imm p.d] (.cel (dMs (Ru.fc (.ap g h m) p))) [none, none] := by
  by_cases q1 : p.g = g ∧ p.w = true
  · have e : Ru.fc (.ap g h m) p = [⟨h, true, p.m - m⟩] := if_pos q1
    rw [e]
    exact (Cl.cast (Cl.ret rfl (Bk.cons (St.asT (EvD.imm (Ev.nm rfl)) rfl) (Bk.cons (St.asT (EvD.imm (Ev.nm rfl)) rfl) (Bk.ret (St.iteT (EvB.cast (EvB.of (Ev.bop (EvO.and (EvB.of (Ev.cmp (EvD.imm (Ev.nm rfl)) (EvR.nm rfl) (q_int rfl rfl))) (EvO.one (EvB.of (Ev.cmp (EvD.imm (Ev.nm rfl)) (EvR.of rfl (EvD.imm Ev.cst)) (q_str rfl rfl))))))) (by rw [wS_eqL]; simp [q1])) (Bk.ret (St.ret rfl (Ev.lst (EvL.cons (EvD.imm (Ev.tup (EvL.cons (EvD.imm (Ev.nm rfl)) (EvL.cons (EvD.imm Ev.cst) (EvL.cons (EvD.any (Ev.bin (EvD.imm (Ev.nm rfl)) (EvD.imm (Ev.nm rfl)) (b_sub rfl rfl))) EvL.nil))) (show 3 ≤ line by decide))) EvL.nil) (show 1 ≤ line by decide)))))))) rfl) rfl)
  by_cases q2 : p.g = h ∧ p.w = false
  · have e : Ru.fc (.ap g h m) p = [⟨g, false, p.m + m⟩] := (if_neg q1).trans (if_pos q2)
    rw [e]
    exact (Cl.cast (Cl.ret rfl (Bk.cons (St.asT (EvD.imm (Ev.nm rfl)) rfl) (Bk.cons (St.asT (EvD.imm (Ev.nm rfl)) rfl) (Bk.cons (St.iteF (EvB.cast (EvB.of (Ev.bop (EvO.and (EvB.of (Ev.cmp (EvD.imm (Ev.nm rfl)) (EvR.nm rfl) (q_int rfl rfl))) (EvO.one (EvB.of (Ev.cmp (EvD.imm (Ev.nm rfl)) (EvR.of rfl (EvD.imm Ev.cst)) (q_str rfl rfl))))))) (by rw [wS_eqL]; simpa using q1)) Bk.nil) (Bk.ret (St.iteT (EvB.cast (EvB.of (Ev.bop (EvO.and (EvB.of (Ev.cmp (EvD.imm (Ev.nm rfl)) (EvR.nm rfl) (q_int rfl rfl))) (EvO.one (EvB.of (Ev.cmp (EvD.imm (Ev.nm rfl)) (EvR.of rfl (EvD.imm Ev.cst)) (q_str rfl rfl))))))) (by rw [wS_eqM]; simp [q2])) (Bk.ret (St.ret rfl (Ev.lst (EvL.cons (EvD.imm (Ev.tup (EvL.cons (EvD.imm (Ev.nm rfl)) (EvL.cons (EvD.imm Ev.cst) (EvL.cons (EvD.any (Ev.bin (EvD.imm (Ev.nm rfl)) (EvD.imm (Ev.nm rfl)) (b_add rfl rfl))) EvL.nil))) (show 3 ≤ line by decide))) EvL.nil) (show 1 ≤ line by decide))))))))) rfl) rfl)
  · have e : Ru.fc (.ap g h m) p = [] := (if_neg q1).trans (if_neg q2)
    rw [e]
    exact (Cl.cast (Cl.ret rfl (Bk.cons (St.asT (EvD.imm (Ev.nm rfl)) rfl) (Bk.cons (St.asT (EvD.imm (Ev.nm rfl)) rfl) (Bk.cons (St.iteF (EvB.cast (EvB.of (Ev.bop (EvO.and (EvB.of (Ev.cmp (EvD.imm (Ev.nm rfl)) (EvR.nm rfl) (q_int rfl rfl))) (EvO.one (EvB.of (Ev.cmp (EvD.imm (Ev.nm rfl)) (EvR.of rfl (EvD.imm Ev.cst)) (q_str rfl rfl))))))) (by rw [wS_eqL]; simpa using q1)) Bk.nil) (Bk.cons (St.iteF (EvB.cast (EvB.of (Ev.bop (EvO.and (EvB.of (Ev.cmp (EvD.imm (Ev.nm rfl)) (EvR.nm rfl) (q_int rfl rfl))) (EvO.one (EvB.of (Ev.cmp (EvD.imm (Ev.nm rfl)) (EvR.of rfl (EvD.imm Ev.cst)) (q_str rfl rfl))))))) (by rw [wS_eqM]; simpa using q2)) Bk.nil) (Bk.ret (St.ret rfl (Ev.lst EvL.nil (show 0 ≤ line by decide)))))))) rfl) rfl)
theorem c_fb_sum {g h m : Int} {w : Bool} {p : Mk} : Cl (phiN ds (k+1)) 16 [.imm (Ru.sm g h w m).d, .imm p.d] (.cel (dMs (Ru.fc (.sm g h w m) p))) [none, none] := by
  by_cases q1 : p.w = w ∨ ¬(g = p.g ∨ h = p.g)
  · have e : Ru.fc (.sm g h w m) p = [] := if_pos q1
    rw [e]
    exact (Cl.cast (Cl.ret rfl (Bk.cons (St.asT (EvD.imm (Ev.nm rfl)) rfl) (Bk.cons (St.asT (EvD.imm (Ev.nm rfl)) rfl) (Bk.ret (St.iteT (EvB.cast (EvB.of (Ev.bop (EvO.or (EvB.of (Ev.cmp (EvD.imm (Ev.nm rfl)) (EvR.nm rfl) (q_str rfl rfl))) (EvO.one (EvB.of (Ev.cmp (EvD.imm (Ev.nm rfl)) (EvR.of rfl (EvD.imm (Ev.tup (EvL.cons (EvD.imm (Ev.nm rfl)) (EvL.cons (EvD.imm (Ev.nm rfl)) EvL.nil)) (show 2 ≤ line by decide)))) notIn2)))))) (by rw [wS_inj]; simpa using q1)) (Bk.ret (St.ret rfl (Ev.lst EvL.nil (show 0 ≤ line by decide)))))))) rfl) rfl)
  · by_cases q2 : p.g = g
    · have e : Ru.fc (.sm g h w m) p = [⟨h, w, m - p.m⟩] := (if_neg q1).trans (by rw [if_pos q2])
      rw [e]
      exact (Cl.cast (Cl.ret rfl (Bk.cons (St.asT (EvD.imm (Ev.nm rfl)) rfl) (Bk.cons (St.asT (EvD.imm (Ev.nm rfl)) rfl) (Bk.cons (St.iteF (EvB.cast (EvB.of (Ev.bop (EvO.or (EvB.of (Ev.cmp (EvD.imm (Ev.nm rfl)) (EvR.nm rfl) (q_str rfl rfl))) (EvO.one (EvB.of (Ev.cmp (EvD.imm (Ev.nm rfl)) (EvR.of rfl (EvD.imm (Ev.tup (EvL.cons (EvD.imm (Ev.nm rfl)) (EvL.cons (EvD.imm (Ev.nm rfl)) EvL.nil)) (show 2 ≤ line by decide)))) notIn2)))))) (by rw [wS_inj]; simpa using q1)) Bk.nil) (Bk.cons (St.as1 (Ev.iteT (EvB.cast (EvB.of (Ev.cmp (EvD.imm (Ev.nm rfl)) (EvR.nm rfl) (q_int rfl rfl))) (decide_eq_true q2)) (Ev.nm rfl)) rfl) (Bk.ret (St.ret rfl (Ev.lst (EvL.cons (EvD.imm (Ev.tup (EvL.cons (EvD.imm (Ev.nm rfl)) (EvL.cons (EvD.imm (Ev.nm rfl)) (EvL.cons (EvD.any (Ev.bin (EvD.imm (Ev.nm rfl)) (EvD.imm (Ev.nm rfl)) (b_sub rfl rfl))) EvL.nil))) (show 3 ≤ line by decide))) EvL.nil) (show 1 ≤ line by decide)))))))) rfl) rfl)
    · have e : Ru.fc (.sm g h w m) p = [⟨g, w, m - p.m⟩] := (if_neg q1).trans (by rw [if_neg q2])
      rw [e]
      exact (Cl.cast (Cl.ret rfl (Bk.cons (St.asT (EvD.imm (Ev.nm rfl)) rfl) (Bk.cons (St.asT (EvD.imm (Ev.nm rfl)) rfl) (Bk.cons (St.iteF (EvB.cast (EvB.of (Ev.bop (EvO.or (EvB.of (Ev.cmp (EvD.imm (Ev.nm rfl)) (EvR.nm rfl) (q_str rfl rfl))) (EvO.one (EvB.of (Ev.cmp (EvD.imm (Ev.nm rfl)) (EvR.of rfl (EvD.imm (Ev.tup (EvL.cons (EvD.imm (Ev.nm rfl)) (EvL.cons (EvD.imm (Ev.nm rfl)) EvL.nil)) (show 2 ≤ line by decide)))) notIn2)))))) (by rw [wS_inj]; simpa using q1)) Bk.nil) (Bk.cons (St.as1 (Ev.iteF (EvB.cast (EvB.of (Ev.cmp (EvD.imm (Ev.nm rfl)) (EvR.nm rfl) (q_int rfl rfl))) (decide_eq_false q2)) (Ev.nm rfl)) rfl) (Bk.ret (St.ret rfl (Ev.lst (EvL.cons (EvD.imm (Ev.tup (EvL.cons (EvD.imm (Ev.nm rfl)) (EvL.cons (EvD.imm (Ev.nm rfl)) (EvL.cons (EvD.any (Ev.bin (EvD.imm (Ev.nm rfl)) (EvD.imm (Ev.nm rfl)) (b_sub rfl rfl))) EvL.nil))) (show 3 ≤ line by decide))) EvL.nil) (show 1 ≤ line by decide)))))))) rfl) rfl)
theorem c_fb_either {a b p : Mk} : Cl (phiN ds (k+3)) 17 [.imm (Ru.ei a b).d, .imm p.d] (.cel (dMs (Ru.fc (.ei a b) p))) [none, none] := by
  cases q0 : a.lt b
  · have e : Ru.fc (.ei a b) p = fcE b a p := by show (if a.lt b then _ else _) = _; rw [q0]; rfl
    rw [e]
    unfold fcE
    cases q1 : p.op a
    · cases q2 : (!decide (b = a) && p.op b)
      · exact (Cl.cast (Cl.ret rfl (Bk.cons (St.asT (EvD.imm (Ev.nm rfl)) rfl) (Bk.cons (St.asT (EvD.any (Ev.iteF (EvB.cast (EvB.of (Ev.cmp (EvD.imm (Ev.nm rfl)) (EvR.nm rfl) q_ltm)) q0) (Ev.tup (EvL.cons (EvD.imm (Ev.nm rfl)) (EvL.cons (EvD.imm (Ev.nm rfl)) EvL.nil)) (show 2 ≤ line by decide)))) rfl) (Bk.cons (St.asC (Ev.lst EvL.nil (show 0 ≤ line by decide)) (by decide) (show 2 < 8 by decide)) (Bk.cons (St.iteF (EvB.cast (EvB.of (Ev.own (EvA.val rfl (EvD.imm (Ev.nm rfl)) (EvA.val rfl (EvD.imm (Ev.nm rfl)) EvA.nil)) rfl c_opposes rfl)) q1) Bk.nil) (Bk.cons (St.iteF (EvB.cast (EvB.of (Ev.bop (EvO.and (EvB.of (Ev.cmp (EvD.imm (Ev.nm rfl)) (EvR.nm rfl) q_nem)) (EvO.one (EvB.of (Ev.own (EvA.val rfl (EvD.imm (Ev.nm rfl)) (EvA.val rfl (EvD.imm (Ev.nm rfl)) EvA.nil)) rfl c_opposes rfl)))))) q2) Bk.nil) (Bk.ret (St.retC rfl (by decide) rfl))))))) rfl) rfl)
      · exact (Cl.cast (Cl.ret rfl (Bk.cons (St.asT (EvD.imm (Ev.nm rfl)) rfl) (Bk.cons (St.asT (EvD.any (Ev.iteF (EvB.cast (EvB.of (Ev.cmp (EvD.imm (Ev.nm rfl)) (EvR.nm rfl) q_ltm)) q0) (Ev.tup (EvL.cons (EvD.imm (Ev.nm rfl)) (EvL.cons (EvD.imm (Ev.nm rfl)) EvL.nil)) (show 2 ≤ line by decide)))) rfl) (Bk.cons (St.asC (Ev.lst EvL.nil (show 0 ≤ line by decide)) (by decide) (show 2 < 8 by decide)) (Bk.cons (St.iteF (EvB.cast (EvB.of (Ev.own (EvA.val rfl (EvD.imm (Ev.nm rfl)) (EvA.val rfl (EvD.imm (Ev.nm rfl)) EvA.nil)) rfl c_opposes rfl)) q1) Bk.nil) (Bk.cons (St.iteT (EvB.cast (EvB.of (Ev.bop (EvO.and (EvB.of (Ev.cmp (EvD.imm (Ev.nm rfl)) (EvR.nm rfl) q_nem)) (EvO.one (EvB.of (Ev.own (EvA.val rfl (EvD.imm (Ev.nm rfl)) (EvA.val rfl (EvD.imm (Ev.nm rfl)) EvA.nil)) rfl c_opposes rfl)))))) q2) (Bk.cons (St.app rfl (EvD.imm (Ev.nm rfl)) rfl (Nat.le_of_ble_eq_true rfl)) Bk.nil)) (Bk.ret (St.retC rfl (by decide) rfl))))))) rfl) rfl)
    · cases q2 : (!decide (b = a) && p.op b)
      · exact (Cl.cast (Cl.ret rfl (Bk.cons (St.asT (EvD.imm (Ev.nm rfl)) rfl) (Bk.cons (St.asT (EvD.any (Ev.iteF (EvB.cast (EvB.of (Ev.cmp (EvD.imm (Ev.nm rfl)) (EvR.nm rfl) q_ltm)) q0) (Ev.tup (EvL.cons (EvD.imm (Ev.nm rfl)) (EvL.cons (EvD.imm (Ev.nm rfl)) EvL.nil)) (show 2 ≤ line by decide)))) rfl) (Bk.cons (St.asC (Ev.lst EvL.nil (show 0 ≤ line by decide)) (by decide) (show 2 < 8 by decide)) (Bk.cons (St.iteT (EvB.cast (EvB.of (Ev.own (EvA.val rfl (EvD.imm (Ev.nm rfl)) (EvA.val rfl (EvD.imm (Ev.nm rfl)) EvA.nil)) rfl c_opposes rfl)) q1) (Bk.cons (St.app rfl (EvD.imm (Ev.nm rfl)) rfl (Nat.le_of_ble_eq_true rfl)) Bk.nil)) (Bk.cons (St.iteF (EvB.cast (EvB.of (Ev.bop (EvO.and (EvB.of (Ev.cmp (EvD.imm (Ev.nm rfl)) (EvR.nm rfl) q_nem)) (EvO.one (EvB.of (Ev.own (EvA.val rfl (EvD.imm (Ev.nm rfl)) (EvA.val rfl (EvD.imm (Ev.nm rfl)) EvA.nil)) rfl c_opposes rfl)))))) q2) Bk.nil) (Bk.ret (St.retC rfl (by decide) rfl))))))) rfl) rfl)
      · exact (Cl.cast (Cl.ret rfl (Bk.cons (St.asT (EvD.imm (Ev.nm rfl)) rfl) (Bk.cons (St.asT (EvD.any (Ev.iteF (EvB.cast (EvB.of (Ev.cmp (EvD.imm (Ev.nm rfl)) (EvR.nm rfl) q_ltm)) q0) (Ev.tup (EvL.cons (EvD.imm (Ev.nm rfl)) (EvL.cons (EvD.imm (Ev.nm rfl)) EvL.nil)) (show 2 ≤ line by decide)))) rfl) (Bk.cons (St.asC (Ev.lst EvL.nil (show 0 ≤ line by decide)) (by decide) (show 2 < 8 by decide)) (Bk.cons (St.iteT (EvB.cast (EvB.of (Ev.own (EvA.val rfl (EvD.imm (Ev.nm rfl)) (EvA.val rfl (EvD.imm (Ev.nm rfl)) EvA.nil)) rfl c_opposes rfl)) q1) (Bk.cons (St.app rfl (EvD.imm (Ev.nm rfl)) rfl (Nat.le_of_ble_eq_true rfl)) Bk.nil)) (Bk.cons (St.iteT (EvB.cast (EvB.of (Ev.bop (EvO.and (EvB.of (Ev.cmp (EvD.imm (Ev.nm rfl)) (EvR.nm rfl) q_nem)) (EvO.one (EvB.of (Ev.own (EvA.val rfl (EvD.imm (Ev.nm rfl)) (EvA.val rfl (EvD.imm (Ev.nm rfl)) EvA.nil)) rfl c_opposes rfl)))))) q2) (Bk.cons (St.app rfl (EvD.imm (Ev.nm rfl)) rfl (Nat.le_of_ble_eq_true rfl)) Bk.nil)) (Bk.ret (St.retC rfl (by decide) rfl))))))) rfl) rfl)
  · have e : Ru.fc (.ei a b) p = fcE a b p := by show (if a.lt b then _ else _) = _; rw [q0]; rfl
    rw [e]
    unfold fcE
    cases q1 : p.op b
    · cases q2 : (!decide (a = b) && p.op a)
      · exact (Cl.cast (Cl.ret rfl (Bk.cons (St.asT (EvD.imm (Ev.nm rfl)) rfl) (Bk.cons (St.asT (EvD.any (Ev.iteT (EvB.cast (EvB.of (Ev.cmp (EvD.imm (Ev.nm rfl)) (EvR.nm rfl) q_ltm)) q0) (Ev.tup (EvL.cons (EvD.imm (Ev.nm rfl)) (EvL.cons (EvD.imm (Ev.nm rfl)) EvL.nil)) (show 2 ≤ line by decide)))) rfl) (Bk.cons (St.asC (Ev.lst EvL.nil (show 0 ≤ line by decide)) (by decide) (show 2 < 8 by decide)) (Bk.cons (St.iteF (EvB.cast (EvB.of (Ev.own (EvA.val rfl (EvD.imm (Ev.nm rfl)) (EvA.val rfl (EvD.imm (Ev.nm rfl)) EvA.nil)) rfl c_opposes rfl)) q1) Bk.nil) (Bk.cons (St.iteF (EvB.cast (EvB.of (Ev.bop (EvO.and (EvB.of (Ev.cmp (EvD.imm (Ev.nm rfl)) (EvR.nm rfl) q_nem)) (EvO.one (EvB.of (Ev.own (EvA.val rfl (EvD.imm (Ev.nm rfl)) (EvA.val rfl (EvD.imm (Ev.nm rfl)) EvA.nil)) rfl c_opposes rfl)))))) q2) Bk.nil) (Bk.ret (St.retC rfl (by decide) rfl))))))) rfl) rfl)
      · exact (Cl.cast (Cl.ret rfl (Bk.cons (St.asT (EvD.imm (Ev.nm rfl)) rfl) (Bk.cons (St.asT (EvD.any (Ev.iteT (EvB.cast (EvB.of (Ev.cmp (EvD.imm (Ev.nm rfl)) (EvR.nm rfl) q_ltm)) q0) (Ev.tup (EvL.cons (EvD.imm (Ev.nm rfl)) (EvL.cons (EvD.imm (Ev.nm rfl)) EvL.nil)) (show 2 ≤ line by decide)))) rfl) (Bk.cons (St.asC (Ev.lst EvL.nil (show 0 ≤ line by decide)) (by decide) (show 2 < 8 by decide)) (Bk.cons (St.iteF (EvB.cast (EvB.of (Ev.own (EvA.val rfl (EvD.imm (Ev.nm rfl)) (EvA.val rfl (EvD.imm (Ev.nm rfl)) EvA.nil)) rfl c_opposes rfl)) q1) Bk.nil) (Bk.cons (St.iteT (EvB.cast (EvB.of (Ev.bop (EvO.and (EvB.of (Ev.cmp (EvD.imm (Ev.nm rfl)) (EvR.nm rfl) q_nem)) (EvO.one (EvB.of (Ev.own (EvA.val rfl (EvD.imm (Ev.nm rfl)) (EvA.val rfl (EvD.imm (Ev.nm rfl)) EvA.nil)) rfl c_opposes rfl)))))) q2) (Bk.cons (St.app rfl (EvD.imm (Ev.nm rfl)) rfl (Nat.le_of_ble_eq_true rfl)) Bk.nil)) (Bk.ret (St.retC rfl (by decide) rfl))))))) rfl) rfl)
    · cases q2 : (!decide (a = b) && p.op a)
      · exact (Cl.cast (Cl.ret rfl (Bk.cons (St.asT (EvD.imm (Ev.nm rfl)) rfl) (Bk.cons (St.asT (EvD.any (Ev.iteT (EvB.cast (EvB.of (Ev.cmp (EvD.imm (Ev.nm rfl)) (EvR.nm rfl) q_ltm)) q0) (Ev.tup (EvL.cons (EvD.imm (Ev.nm rfl)) (EvL.cons (EvD.imm (Ev.nm rfl)) EvL.nil)) (show 2 ≤ line by decide)))) rfl) (Bk.cons (St.asC (Ev.lst EvL.nil (show 0 ≤ line by decide)) (by decide) (show 2 < 8 by decide)) (Bk.cons (St.iteT (EvB.cast (EvB.of (Ev.own (EvA.val rfl (EvD.imm (Ev.nm rfl)) (EvA.val rfl (EvD.imm (Ev.nm rfl)) EvA.nil)) rfl c_opposes rfl)) q1) (Bk.cons (St.app rfl (EvD.imm (Ev.nm rfl)) rfl (Nat.le_of_ble_eq_true rfl)) Bk.nil)) (Bk.cons (St.iteF (EvB.cast (EvB.of (Ev.bop (EvO.and (EvB.of (Ev.cmp (EvD.imm (Ev.nm rfl)) (EvR.nm rfl) q_nem)) (EvO.one (EvB.of (Ev.own (EvA.val rfl (EvD.imm (Ev.nm rfl)) (EvA.val rfl (EvD.imm (Ev.nm rfl)) EvA.nil)) rfl c_opposes rfl)))))) q2) Bk.nil) (Bk.ret (St.retC rfl (by decide) rfl))))))) rfl) rfl)
      · exact (Cl.cast (Cl.ret rfl (Bk.cons (St.asT (EvD.imm (Ev.nm rfl)) rfl) (Bk.cons (St.asT (EvD.any (Ev.iteT (EvB.cast (EvB.of (Ev.cmp (EvD.imm (Ev.nm rfl)) (EvR.nm rfl) q_ltm)) q0) (Ev.tup (EvL.cons (EvD.imm (Ev.nm rfl)) (EvL.cons (EvD.imm (Ev.nm rfl)) EvL.nil)) (show 2 ≤ line by decide)))) rfl) (Bk.cons (St.asC (Ev.lst EvL.nil (show 0 ≤ line by decide)) (by decide) (show 2 < 8 by decide)) (Bk.cons (St.iteT (EvB.cast (EvB.of (Ev.own (EvA.val rfl (EvD.imm (Ev.nm rfl)) (EvA.val rfl (EvD.imm (Ev.nm rfl)) EvA.nil)) rfl c_opposes rfl)) q1) (Bk.cons (St.app rfl (EvD.imm (Ev.nm rfl)) rfl (Nat.le_of_ble_eq_true rfl)) Bk.nil)) (Bk.cons (St.iteT (EvB.cast (EvB.of (Ev.bop (EvO.and (EvB.of (Ev.cmp (EvD.imm (Ev.nm rfl)) (EvR.nm rfl) q_nem)) (EvO.one (EvB.of (Ev.own (EvA.val rfl (EvD.imm (Ev.nm rfl)) (EvA.val rfl (EvD.imm (Ev.nm rfl)) EvA.nil)) rfl c_opposes rfl)))))) q2) (Bk.cons (St.app rfl (EvD.imm (Ev.nm rfl)) rfl (Nat.le_of_ble_eq_true rfl)) Bk.nil)) (Bk.ret (St.retC rfl (by decide) rfl))))))) rfl) rfl)
theorem c_forced_by {r : Ru} {p : Mk} : Cl (phiN ds (k+4)) 14 [.imm r.d, .imm p.d] (.cel (dMs (r.fc p))) [none, none] := by
  cases r with
  | bd q => exact (Cl.cast (Cl.ret rfl (Bk.cons (St.as1 (Ev.ixi rfl (EvD.imm (Ev.nm rfl)) (EvD.imm Ev.cst) rfl rfl) rfl) (Bk.cons (St.iteF (EvB.cast (EvB.of (Ev.cmp (EvD.imm (Ev.nm rfl)) (EvR.of rfl (EvD.imm Ev.cst)) (q_str rfl rfl))) (by decide +kernel)) Bk.nil) (Bk.cons (St.iteF (EvB.cast (EvB.of (Ev.cmp (EvD.imm (Ev.nm rfl)) (EvR.of rfl (EvD.imm Ev.cst)) (q_str rfl rfl))) (by decide +kernel)) Bk.nil) (Bk.cons (St.iteF (EvB.cast (EvB.of (Ev.cmp (EvD.imm (Ev.nm rfl)) (EvR.of rfl (EvD.imm Ev.cst)) (q_str rfl rfl))) (by decide +kernel)) Bk.nil) (Bk.ret (St.ret rfl (Ev.lst EvL.nil (show 0 ≤ line by decide)))))))) rfl) rfl)
  | ap g h m => exact (Cl.cast (Cl.ret rfl (Bk.cons (St.as1 (Ev.ixi rfl (EvD.imm (Ev.nm rfl)) (EvD.imm Ev.cst) rfl rfl) rfl) (Bk.ret (St.iteT (EvB.cast (EvB.of (Ev.cmp (EvD.imm (Ev.nm rfl)) (EvR.of rfl (EvD.imm Ev.cst)) (q_str rfl rfl))) yy) (Bk.ret (St.ret rfl (Ev.own (EvA.val rfl (EvD.imm (Ev.nm rfl)) (EvA.val rfl (EvD.imm (Ev.nm rfl)) EvA.nil)) rfl c_fb_apart rfl)))))) rfl) rfl)
  | sm g h w m => exact (Cl.cast (Cl.ret rfl (Bk.cons (St.as1 (Ev.ixi rfl (EvD.imm (Ev.nm rfl)) (EvD.imm Ev.cst) rfl rfl) rfl) (Bk.cons (St.iteF (EvB.cast (EvB.of (Ev.cmp (EvD.imm (Ev.nm rfl)) (EvR.of rfl (EvD.imm Ev.cst)) (q_str rfl rfl))) nAS) Bk.nil) (Bk.ret (St.iteT (EvB.cast (EvB.of (Ev.cmp (EvD.imm (Ev.nm rfl)) (EvR.of rfl (EvD.imm Ev.cst)) (q_str rfl rfl))) yy) (Bk.ret (St.ret rfl (Ev.own (EvA.val rfl (EvD.imm (Ev.nm rfl)) (EvA.val rfl (EvD.imm (Ev.nm rfl)) EvA.nil)) rfl c_fb_sum rfl))))))) rfl) rfl)
  | ei a b => exact (Cl.cast (Cl.ret rfl (Bk.cons (St.as1 (Ev.ixi rfl (EvD.imm (Ev.nm rfl)) (EvD.imm Ev.cst) rfl rfl) rfl) (Bk.cons (St.iteF (EvB.cast (EvB.of (Ev.cmp (EvD.imm (Ev.nm rfl)) (EvR.of rfl (EvD.imm Ev.cst)) (q_str rfl rfl))) nAE) Bk.nil) (Bk.cons (St.iteF (EvB.cast (EvB.of (Ev.cmp (EvD.imm (Ev.nm rfl)) (EvR.of rfl (EvD.imm Ev.cst)) (q_str rfl rfl))) nSE) Bk.nil) (Bk.ret (St.iteT (EvB.cast (EvB.of (Ev.cmp (EvD.imm (Ev.nm rfl)) (EvR.of rfl (EvD.imm Ev.cst)) (q_str rfl rfl))) yy) (Bk.ret (St.ret rfl (Ev.own (EvA.val rfl (EvD.imm (Ev.nm rfl)) (EvA.val rfl (EvD.imm (Ev.nm rfl)) EvA.nil)) rfl c_fb_either rfl)))))))) rfl) rfl)
theorem c_forced {r : Ru} {p : Mk} (hn : 1 ≤ n ∧ n ≤ 5) (hr : r.ok n) (hp : Ga n p.g) : Cl (phiN ds (k+6)) 13 [.imm (.int n), .imm r.d, .imm p.d] (.cel (dMs (r.fc p))) [none, none, none] :=
  (Cl.cast (Cl.ret rfl (Bk.cons (St.exp (Ev.own (EvA.val rfl (EvD.imm (Ev.nm rfl)) EvA.nil) rfl (c_check_gauges hn) rfl)) (Bk.cons (St.exp (Ev.own (EvA.val rfl (EvD.imm (Ev.nm rfl)) (EvA.val rfl (EvD.imm (Ev.nm rfl)) EvA.nil)) rfl (c_check_rule hr) rfl)) (Bk.cons (St.exp (Ev.own (EvA.val rfl (EvD.imm (Ev.nm rfl)) (EvA.val rfl (EvD.imm (Ev.nm rfl)) EvA.nil)) rfl (c_check_bound hp) rfl)) (Bk.ret (St.ret rfl (Ev.own (EvA.val rfl (EvD.imm (Ev.nm rfl)) (EvA.val rfl (EvD.imm (Ev.nm rfl)) EvA.nil)) rfl c_forced_by rfl)))))) rfl) rfl)
end La
set_option maxHeartbeats 0
namespace La
open PySem L2 Mx
variable {k : Nat} {n w : Int} {s : List Int} {l : List D} {N : Nat}
theorem two (hB : Bag N l) (hn : N + 4 < Big) (hw : 2 ≤ w ∧ w ≤ 5) : ∃ (lo hi : Int) (l' : List D), (∀ k, Cl (phiN ds (k+2)) 23 [.cel l, .imm (.int w)] (.imm (.tup [.int lo, .int hi])) [some l', none]) ∧ Ga w lo ∧ Ga w hi ∧ lo < hi ∧ Bag (N + 2) l' := by
  obtain ⟨a, l1, h1, a0, a1, B1⟩ := draw (u := w - 1) hB (by omega) (by omega)
  obtain ⟨b, l2, h2, b0, b1, B2⟩ := draw (u := w - 1 - a) B1 (by omega) (by omega)
  exact ⟨a, a + 1 + b, _, fun k => (Cl.cast (Cl.ret rfl (Bk.cons (St.as1 (Ev.own (EvA.slot rfl (EvA.val rfl (EvD.any (Ev.bin (EvD.imm (Ev.nm rfl)) (EvD.imm Ev.cst) (b_sub rfl rfl))) EvA.nil)) rfl (h1 _) rfl) rfl) (Bk.ret (St.ret rfl (Ev.tup (EvL.cons (EvD.imm (Ev.nm rfl)) (EvL.cons (EvD.any (Ev.bin (EvD.any (Ev.bin (EvD.imm (Ev.nm rfl)) (EvD.imm Ev.cst) (b_add rfl rfl))) (EvD.any (Ev.own (EvA.slot rfl (EvA.val rfl (EvD.any (Ev.bin (EvD.any (Ev.bin (EvD.imm (Ev.nm rfl)) (EvD.imm Ev.cst) (b_sub rfl rfl))) (EvD.imm (Ev.nm rfl)) (b_sub rfl rfl))) EvA.nil)) rfl (h2 _) rfl)) (b_add rfl rfl))) EvL.nil)) (show 2 ≤ line by decide))))) rfl) rfl), ⟨a0, by omega⟩, ⟨by omega, by omega⟩, by omega, B2⟩
def Ru.nb (B : Int) : Ru → Prop
  | .bd p => -B ≤ p.m ∧ p.m ≤ B
  | .ap _ _ m => -B ≤ m ∧ m ≤ B
  | .sm _ _ _ m => -B ≤ m ∧ m ≤ B
  | .ei p q => (-B ≤ p.m ∧ p.m ≤ B) ∧ (-B ≤ q.m ∧ q.m ≤ B)
theorem term (hB : Bag N l) (hn : N + 20 < Big) (hw : 1 ≤ w ∧ w ≤ 5) : ∃ (r : Ru) (l' : List D), (∀ k, Cl (phiN ds (k+4)) 24 [.cel l, .imm (.int w)] (.imm r.d) [some l', none]) ∧ r.ok w ∧ Ru.nb 400000000000 r ∧ Bag (N + 12) l' := by
  obtain ⟨c, l1, h1, c0, c1, B1⟩ := draw (u := 7) hB (by omega) (by decide)
  by_cases q0 : c = 0
  · obtain ⟨p, l2, h2, gp, np, B2⟩ := mark (w := w) B1 (by omega) hw
    exact ⟨.bd p, _, fun k => (Cl.cast (Cl.ret rfl (Bk.cons (St.as1 (Ev.own (EvA.slot rfl (EvA.val rfl (EvD.imm Ev.cst) EvA.nil)) rfl (h1 _) rfl) rfl) (Bk.ret (St.iteT (EvB.cast (EvB.of (Ev.cmp (EvD.imm (Ev.nm rfl)) (EvR.of rfl (EvD.imm Ev.cst)) (q_int rfl rfl))) (decide_eq_true q0)) (Bk.ret (St.ret rfl (Ev.tup (EvL.cons (EvD.imm Ev.cst) (EvL.cons (EvD.any (Ev.own (EvA.slot rfl (EvA.val rfl (EvD.imm (Ev.nm rfl)) EvA.nil)) rfl (h2 _) rfl)) EvL.nil)) (show 2 ≤ line by decide))))))) rfl) rfl), gp, np, B2.up (by omega)⟩
  by_cases q1 : c < 3 ∨ w = 1
  · obtain ⟨p, l2, h2, gp, np, B2⟩ := mark (w := w) B1 (by omega) hw
    obtain ⟨p', l3, h3, gp', np', B3⟩ := mark (w := w) B2 (by omega) hw
    exact ⟨.ei p p', _, fun k => (Cl.cast (Cl.ret rfl (Bk.cons (St.as1 (Ev.own (EvA.slot rfl (EvA.val rfl (EvD.imm Ev.cst) EvA.nil)) rfl (h1 _) rfl) rfl) (Bk.cons (St.iteF (EvB.cast (EvB.of (Ev.cmp (EvD.imm (Ev.nm rfl)) (EvR.of rfl (EvD.imm Ev.cst)) (q_int rfl rfl))) (decide_eq_false q0)) Bk.nil) (Bk.ret (St.iteT (EvB.cast (EvB.of (Ev.bop (EvO.or (EvB.of (Ev.cmp (EvD.imm (Ev.nm rfl)) (EvR.of rfl (EvD.imm Ev.cst)) (q_lt rfl rfl))) (EvO.one (EvB.of (Ev.cmp (EvD.imm (Ev.nm rfl)) (EvR.of rfl (EvD.imm Ev.cst)) (q_int rfl rfl))))))) (by simpa using q1)) (Bk.ret (St.ret rfl (Ev.tup (EvL.cons (EvD.imm Ev.cst) (EvL.cons (EvD.any (Ev.own (EvA.slot rfl (EvA.val rfl (EvD.imm (Ev.nm rfl)) EvA.nil)) rfl (h2 _) rfl)) (EvL.cons (EvD.any (Ev.own (EvA.slot rfl (EvA.val rfl (EvD.imm (Ev.nm rfl)) EvA.nil)) rfl (h3 _) rfl)) EvL.nil))) (show 3 ≤ line by decide)))))))) rfl) rfl), ⟨gp, gp'⟩, ⟨np, np'⟩, B3.up (by omega)⟩
  obtain ⟨lo, hi, l2, h2, g1, g2, lt, B2⟩ := two (w := w) B1 (by omega) (by omega)
  by_cases q2 : c = 3
  · obtain ⟨m, l3, h3, hm, B3⟩ := number B2 (by omega)
    exact ⟨.ap lo hi m, _, fun k => (Cl.cast (Cl.ret rfl (Bk.cons (St.as1 (Ev.own (EvA.slot rfl (EvA.val rfl (EvD.imm Ev.cst) EvA.nil)) rfl (h1 _) rfl) rfl) (Bk.cons (St.iteF (EvB.cast (EvB.of (Ev.cmp (EvD.imm (Ev.nm rfl)) (EvR.of rfl (EvD.imm Ev.cst)) (q_int rfl rfl))) (decide_eq_false q0)) Bk.nil) (Bk.cons (St.iteF (EvB.cast (EvB.of (Ev.bop (EvO.or (EvB.of (Ev.cmp (EvD.imm (Ev.nm rfl)) (EvR.of rfl (EvD.imm Ev.cst)) (q_lt rfl rfl))) (EvO.one (EvB.of (Ev.cmp (EvD.imm (Ev.nm rfl)) (EvR.of rfl (EvD.imm Ev.cst)) (q_int rfl rfl))))))) (by simpa using q1)) Bk.nil) (Bk.cons (St.asT (EvD.any (Ev.own (EvA.slot rfl (EvA.val rfl (EvD.imm (Ev.nm rfl)) EvA.nil)) rfl (h2 _) rfl)) rfl) (Bk.ret (St.iteT (EvB.cast (EvB.of (Ev.cmp (EvD.imm (Ev.nm rfl)) (EvR.of rfl (EvD.imm Ev.cst)) (q_int rfl rfl))) (decide_eq_true q2)) (Bk.ret (St.ret rfl (Ev.tup (EvL.cons (EvD.imm Ev.cst) (EvL.cons (EvD.imm (Ev.nm rfl)) (EvL.cons (EvD.imm (Ev.nm rfl)) (EvL.cons (EvD.any (Ev.own (EvA.slot rfl EvA.nil) rfl (h3 _) rfl)) EvL.nil)))) (show 4 ≤ line by decide)))))))))) rfl) rfl), ⟨g1, g2, by omega⟩, hm, B3.up (by omega)⟩
  by_cases q3 : c = 4
  · obtain ⟨m, l3, h3, hm, B3⟩ := number B2 (by omega)
    exact ⟨.ap hi lo m, _, fun k => (Cl.cast (Cl.ret rfl (Bk.cons (St.as1 (Ev.own (EvA.slot rfl (EvA.val rfl (EvD.imm Ev.cst) EvA.nil)) rfl (h1 _) rfl) rfl) (Bk.cons (St.iteF (EvB.cast (EvB.of (Ev.cmp (EvD.imm (Ev.nm rfl)) (EvR.of rfl (EvD.imm Ev.cst)) (q_int rfl rfl))) (decide_eq_false q0)) Bk.nil) (Bk.cons (St.iteF (EvB.cast (EvB.of (Ev.bop (EvO.or (EvB.of (Ev.cmp (EvD.imm (Ev.nm rfl)) (EvR.of rfl (EvD.imm Ev.cst)) (q_lt rfl rfl))) (EvO.one (EvB.of (Ev.cmp (EvD.imm (Ev.nm rfl)) (EvR.of rfl (EvD.imm Ev.cst)) (q_int rfl rfl))))))) (by simpa using q1)) Bk.nil) (Bk.cons (St.asT (EvD.any (Ev.own (EvA.slot rfl (EvA.val rfl (EvD.imm (Ev.nm rfl)) EvA.nil)) rfl (h2 _) rfl)) rfl) (Bk.cons (St.iteF (EvB.cast (EvB.of (Ev.cmp (EvD.imm (Ev.nm rfl)) (EvR.of rfl (EvD.imm Ev.cst)) (q_int rfl rfl))) (decide_eq_false q2)) Bk.nil) (Bk.ret (St.iteT (EvB.cast (EvB.of (Ev.cmp (EvD.imm (Ev.nm rfl)) (EvR.of rfl (EvD.imm Ev.cst)) (q_int rfl rfl))) (decide_eq_true q3)) (Bk.ret (St.ret rfl (Ev.tup (EvL.cons (EvD.imm Ev.cst) (EvL.cons (EvD.imm (Ev.nm rfl)) (EvL.cons (EvD.imm (Ev.nm rfl)) (EvL.cons (EvD.any (Ev.own (EvA.slot rfl EvA.nil) rfl (h3 _) rfl)) EvL.nil)))) (show 4 ≤ line by decide))))))))))) rfl) rfl), ⟨g2, g1, by omega⟩, hm, B3.up (by omega)⟩
  obtain ⟨x, l3, h3, B3⟩ := way B2 (by omega)
  obtain ⟨m, l4, h4, hm, B4⟩ := number B3 (by omega)
  exact ⟨.sm lo hi x m, _, fun k => (Cl.cast (Cl.ret rfl (Bk.cons (St.as1 (Ev.own (EvA.slot rfl (EvA.val rfl (EvD.imm Ev.cst) EvA.nil)) rfl (h1 _) rfl) rfl) (Bk.cons (St.iteF (EvB.cast (EvB.of (Ev.cmp (EvD.imm (Ev.nm rfl)) (EvR.of rfl (EvD.imm Ev.cst)) (q_int rfl rfl))) (decide_eq_false q0)) Bk.nil) (Bk.cons (St.iteF (EvB.cast (EvB.of (Ev.bop (EvO.or (EvB.of (Ev.cmp (EvD.imm (Ev.nm rfl)) (EvR.of rfl (EvD.imm Ev.cst)) (q_lt rfl rfl))) (EvO.one (EvB.of (Ev.cmp (EvD.imm (Ev.nm rfl)) (EvR.of rfl (EvD.imm Ev.cst)) (q_int rfl rfl))))))) (by simpa using q1)) Bk.nil) (Bk.cons (St.asT (EvD.any (Ev.own (EvA.slot rfl (EvA.val rfl (EvD.imm (Ev.nm rfl)) EvA.nil)) rfl (h2 _) rfl)) rfl) (Bk.cons (St.iteF (EvB.cast (EvB.of (Ev.cmp (EvD.imm (Ev.nm rfl)) (EvR.of rfl (EvD.imm Ev.cst)) (q_int rfl rfl))) (decide_eq_false q2)) Bk.nil) (Bk.cons (St.iteF (EvB.cast (EvB.of (Ev.cmp (EvD.imm (Ev.nm rfl)) (EvR.of rfl (EvD.imm Ev.cst)) (q_int rfl rfl))) (decide_eq_false q3)) Bk.nil) (Bk.ret (St.ret rfl (Ev.tup (EvL.cons (EvD.imm Ev.cst) (EvL.cons (EvD.imm (Ev.nm rfl)) (EvL.cons (EvD.imm (Ev.nm rfl)) (EvL.cons (EvD.any (Ev.own (EvA.slot rfl EvA.nil) rfl (h3 _) rfl)) (EvL.cons (EvD.any (Ev.own (EvA.slot rfl EvA.nil) rfl (h4 _) rfl)) EvL.nil))))) (show 5 ≤ line by decide)))))))))) rfl) rfl), ⟨g1, g2, lt⟩, hm, B4.up (by omega)⟩
end La
set_option maxHeartbeats 0
namespace La
open PySem L2 Mx
variable {k : Nat} {n w : Int} {s : List Int} {l : List D} {N : Nat}
theorem l_contrary {p : Mk} : Cl (phiN ds (k+1)) 25 [.imm p.d] (.imm p.con.d) [none] := by
  obtain ⟨g, w, m⟩ := p
  cases w
  · exact (Cl.cast (Cl.ret rfl (Bk.cons (St.iteF (EvB.cast (EvB.of (Ev.cmp (EvD.any (Ev.ixi rfl (EvD.imm (Ev.nm rfl)) (EvD.imm Ev.cst) rfl rfl)) (EvR.of rfl (EvD.imm Ev.cst)) (q_str rfl rfl))) (wS_M rfl)) Bk.nil) (Bk.ret (St.ret rfl (Ev.tup (EvL.cons (EvD.any (Ev.ixi rfl (EvD.imm (Ev.nm rfl)) (EvD.imm Ev.cst) rfl rfl)) (EvL.cons (EvD.imm Ev.cst) (EvL.cons (EvD.any (Ev.bin (EvD.any (Ev.ixi rfl (EvD.imm (Ev.nm rfl)) (EvD.imm Ev.cst) rfl rfl)) (EvD.imm Ev.cst) (b_add rfl rfl))) EvL.nil))) (show 3 ≤ line by decide))))) rfl) rfl)
  · exact (Cl.cast (Cl.ret rfl (Bk.ret (St.iteT (EvB.cast (EvB.of (Ev.cmp (EvD.any (Ev.ixi rfl (EvD.imm (Ev.nm rfl)) (EvD.imm Ev.cst) rfl rfl)) (EvR.of rfl (EvD.imm Ev.cst)) (q_str rfl rfl))) (wS_L rfl)) (Bk.ret (St.ret rfl (Ev.tup (EvL.cons (EvD.any (Ev.ixi rfl (EvD.imm (Ev.nm rfl)) (EvD.imm Ev.cst) rfl rfl)) (EvL.cons (EvD.imm Ev.cst) (EvL.cons (EvD.any (Ev.bin (EvD.any (Ev.ixi rfl (EvD.imm (Ev.nm rfl)) (EvD.imm Ev.cst) rfl rfl)) (EvD.imm Ev.cst) (b_sub rfl rfl))) EvL.nil))) (show 3 ≤ line by decide)))))) rfl) rfl)
theorem l_oppose {p q : Mk} : Cl (phiN ds (k+1)) 26 [.imm p.d, .imm q.d] (.imm (.bl (p.op q))) [none, none] := by
  cases h : (!decide (p.g = q.g) || decide (p.w = q.w))
  · have h1 : p.g = q.g := by simp at h; exact h.1
    have h2 : ¬ p.w = q.w := by simp at h; exact h.2
    have z : (!decide (p.g = q.g) || decide (wS p.w = wS q.w)) = false := by rw [wS_inj]; exact h
    obtain ⟨g, w, m⟩ := p
    cases w
    · exact Cl.bl ((Cl.ret rfl (Bk.cons (St.iteF (EvB.cast (EvB.of (Ev.bop (EvO.or (EvB.of (Ev.cmp (EvD.any (Ev.ixi rfl (EvD.imm (Ev.nm rfl)) (EvD.imm Ev.cst) rfl rfl)) (EvR.of rfl (EvD.any (Ev.ixi rfl (EvD.imm (Ev.nm rfl)) (EvD.imm Ev.cst) rfl rfl))) (q_nei rfl rfl))) (EvO.one (EvB.of (Ev.cmp (EvD.any (Ev.ixi rfl (EvD.imm (Ev.nm rfl)) (EvD.imm Ev.cst) rfl rfl)) (EvR.of rfl (EvD.any (Ev.ixi rfl (EvD.imm (Ev.nm rfl)) (EvD.imm Ev.cst) rfl rfl))) (q_str rfl rfl))))))) z) Bk.nil) (Bk.cons (St.iteF (EvB.cast (EvB.of (Ev.cmp (EvD.any (Ev.ixi rfl (EvD.imm (Ev.nm rfl)) (EvD.imm Ev.cst) rfl rfl)) (EvR.of rfl (EvD.imm Ev.cst)) (q_str rfl rfl))) (wS_M rfl)) Bk.nil) (Bk.ret (St.ret rfl (Ev.cmp (EvD.any (Ev.ixi rfl (EvD.imm (Ev.nm rfl)) (EvD.imm Ev.cst) rfl rfl)) (EvR.of rfl (EvD.any (Ev.ixi rfl (EvD.imm (Ev.nm rfl)) (EvD.imm Ev.cst) rfl rfl))) (q_gt rfl rfl)))))) rfl)) (by simp at h1 h2; simp [Mk.op, h1, h2])
    · exact Cl.bl ((Cl.ret rfl (Bk.cons (St.iteF (EvB.cast (EvB.of (Ev.bop (EvO.or (EvB.of (Ev.cmp (EvD.any (Ev.ixi rfl (EvD.imm (Ev.nm rfl)) (EvD.imm Ev.cst) rfl rfl)) (EvR.of rfl (EvD.any (Ev.ixi rfl (EvD.imm (Ev.nm rfl)) (EvD.imm Ev.cst) rfl rfl))) (q_nei rfl rfl))) (EvO.one (EvB.of (Ev.cmp (EvD.any (Ev.ixi rfl (EvD.imm (Ev.nm rfl)) (EvD.imm Ev.cst) rfl rfl)) (EvR.of rfl (EvD.any (Ev.ixi rfl (EvD.imm (Ev.nm rfl)) (EvD.imm Ev.cst) rfl rfl))) (q_str rfl rfl))))))) z) Bk.nil) (Bk.ret (St.iteT (EvB.cast (EvB.of (Ev.cmp (EvD.any (Ev.ixi rfl (EvD.imm (Ev.nm rfl)) (EvD.imm Ev.cst) rfl rfl)) (EvR.of rfl (EvD.imm Ev.cst)) (q_str rfl rfl))) (wS_L rfl)) (Bk.ret (St.ret rfl (Ev.cmp (EvD.any (Ev.ixi rfl (EvD.imm (Ev.nm rfl)) (EvD.imm Ev.cst) rfl rfl)) (EvR.of rfl (EvD.any (Ev.ixi rfl (EvD.imm (Ev.nm rfl)) (EvD.imm Ev.cst) rfl rfl))) (q_gt rfl rfl))))))) rfl)) (by simp at h1 h2; simp [Mk.op, h1, h2])
  · have z : (!decide (p.g = q.g) || decide (wS p.w = wS q.w)) = true := by rw [wS_inj]; exact h
    exact Cl.bl ((Cl.ret rfl (Bk.ret (St.iteT (EvB.cast (EvB.of (Ev.bop (EvO.or (EvB.of (Ev.cmp (EvD.any (Ev.ixi rfl (EvD.imm (Ev.nm rfl)) (EvD.imm Ev.cst) rfl rfl)) (EvR.of rfl (EvD.any (Ev.ixi rfl (EvD.imm (Ev.nm rfl)) (EvD.imm Ev.cst) rfl rfl))) (q_nei rfl rfl))) (EvO.one (EvB.of (Ev.cmp (EvD.any (Ev.ixi rfl (EvD.imm (Ev.nm rfl)) (EvD.imm Ev.cst) rfl rfl)) (EvR.of rfl (EvD.any (Ev.ixi rfl (EvD.imm (Ev.nm rfl)) (EvD.imm Ev.cst) rfl rfl))) (q_str rfl rfl))))))) z) (Bk.ret (St.ret rfl Ev.cst)))) rfl)) (by
      simp at h
      unfold Mk.op
      rcases h with h | h <;> simp [h])
theorem in2L {a g h : Int} : cmpD .In (.int a) (.lst [.int g, .int h]) = some (decide (g = a) || decide (h = a)) := by
  refine (show cmpD .In (.int a) (.lst [.int g, .int h]) = some (inV (.int a) [.int g, .int h]) from rfl).trans (congrArg some ?_)
  unfold inV
  simp [eqV]
  rw [Bool.eq_iff_iff]
  simp
theorem srt0 : srtD (.lst []) = some (.cel (dMs [])) := rfl
theorem l_forced {r : Ru} {p : Mk} : Cl (phiN ds (k+2)) 27 [.imm r.d, .imm p.d] (.cel (dMs (r.fc p))) [none, none] := by
  cases r with
  | bd q => exact (Cl.cast (Cl.ret rfl (Bk.cons (St.asT (EvD.imm (Ev.nm rfl)) rfl) (Bk.cons (St.iteF (EvB.cast (EvB.of (Ev.bop (EvO.andF (EvB.cast (EvB.of (Ev.cmp (EvD.any (Ev.ixi rfl (EvD.imm (Ev.nm rfl)) (EvD.imm Ev.cst) rfl rfl)) (EvR.of rfl (EvD.imm Ev.cst)) (q_str rfl rfl))) (by decide +kernel))))) rfl) Bk.nil) (Bk.cons (St.iteF (EvB.cast (EvB.of (Ev.bop (EvO.andF (EvB.cast (EvB.of (Ev.cmp (EvD.any (Ev.ixi rfl (EvD.imm (Ev.nm rfl)) (EvD.imm Ev.cst) rfl rfl)) (EvR.of rfl (EvD.imm Ev.cst)) (q_str rfl rfl))) (by decide +kernel))))) rfl) Bk.nil) (Bk.cons (St.iteF (EvB.cast (EvB.of (Ev.bop (EvO.andF (EvB.cast (EvB.of (Ev.cmp (EvD.any (Ev.ixi rfl (EvD.imm (Ev.nm rfl)) (EvD.imm Ev.cst) rfl rfl)) (EvR.of rfl (EvD.imm Ev.cst)) (q_str rfl rfl))) (by decide +kernel))))) rfl) Bk.nil) (Bk.cons (St.asC (Ev.lst EvL.nil (show 0 ≤ line by decide)) (by decide) (show 2 < 6 by decide)) (Bk.cons (St.iteF (EvB.cast (EvB.of (Ev.bop (EvO.andF (EvB.cast (EvB.of (Ev.cmp (EvD.any (Ev.ixi rfl (EvD.imm (Ev.nm rfl)) (EvD.imm Ev.cst) rfl rfl)) (EvR.of rfl (EvD.imm Ev.cst)) (q_str rfl rfl))) (by decide +kernel))))) rfl) Bk.nil) (Bk.cons (St.iteF (EvB.cast (EvB.of (Ev.bop (EvO.andF (EvB.cast (EvB.of (Ev.cmp (EvD.any (Ev.ixi rfl (EvD.imm (Ev.nm rfl)) (EvD.imm Ev.cst) rfl rfl)) (EvR.of rfl (EvD.imm Ev.cst)) (q_str rfl rfl))) (by decide +kernel))))) rfl) Bk.nil) (Bk.ret (St.ret rfl (Ev.ss (EvR.nm rfl) srt0)))))))))) rfl) rfl)
  | ap g h m =>
    by_cases q1 : p.g = g ∧ p.w = true
    · have e : Ru.fc (.ap g h m) p = [⟨h, true, p.m - m⟩] := if_pos q1
      rw [e]
      exact (Cl.cast (Cl.ret rfl (Bk.cons (St.asT (EvD.imm (Ev.nm rfl)) rfl) (Bk.ret (St.iteT (EvB.cast (EvB.of (Ev.bop (EvO.and (EvB.of (Ev.cmp (EvD.any (Ev.ixi rfl (EvD.imm (Ev.nm rfl)) (EvD.imm Ev.cst) rfl rfl)) (EvR.of rfl (EvD.imm Ev.cst)) (q_str rfl rfl))) (EvO.and (EvB.of (Ev.cmp (EvD.imm (Ev.nm rfl)) (EvR.of rfl (EvD.any (Ev.ixi rfl (EvD.imm (Ev.nm rfl)) (EvD.imm Ev.cst) rfl rfl))) (q_int rfl rfl))) (EvO.one (EvB.of (Ev.cmp (EvD.imm (Ev.nm rfl)) (EvR.of rfl (EvD.imm Ev.cst)) (q_str rfl rfl)))))))) (by rw [wS_eqL]; simp [q1])) (Bk.ret (St.ret rfl (Ev.lst (EvL.cons (EvD.imm (Ev.tup (EvL.cons (EvD.any (Ev.ixi rfl (EvD.imm (Ev.nm rfl)) (EvD.imm Ev.cst) rfl rfl)) (EvL.cons (EvD.imm Ev.cst) (EvL.cons (EvD.any (Ev.bin (EvD.imm (Ev.nm rfl)) (EvD.any (Ev.ixi rfl (EvD.imm (Ev.nm rfl)) (EvD.imm Ev.cst) rfl rfl)) (b_sub rfl rfl))) EvL.nil))) (show 3 ≤ line by decide))) EvL.nil) (show 1 ≤ line by decide))))))) rfl) rfl)
    by_cases q2 : p.g = h ∧ p.w = false
    · have e : Ru.fc (.ap g h m) p = [⟨g, false, p.m + m⟩] := (if_neg q1).trans (if_pos q2)
      rw [e]
      exact (Cl.cast (Cl.ret rfl (Bk.cons (St.asT (EvD.imm (Ev.nm rfl)) rfl) (Bk.cons (St.iteF (EvB.cast (EvB.of (Ev.bop (EvO.and (EvB.of (Ev.cmp (EvD.any (Ev.ixi rfl (EvD.imm (Ev.nm rfl)) (EvD.imm Ev.cst) rfl rfl)) (EvR.of rfl (EvD.imm Ev.cst)) (q_str rfl rfl))) (EvO.and (EvB.of (Ev.cmp (EvD.imm (Ev.nm rfl)) (EvR.of rfl (EvD.any (Ev.ixi rfl (EvD.imm (Ev.nm rfl)) (EvD.imm Ev.cst) rfl rfl))) (q_int rfl rfl))) (EvO.one (EvB.of (Ev.cmp (EvD.imm (Ev.nm rfl)) (EvR.of rfl (EvD.imm Ev.cst)) (q_str rfl rfl)))))))) (by rw [wS_eqL]; simpa using q1)) Bk.nil) (Bk.ret (St.iteT (EvB.cast (EvB.of (Ev.bop (EvO.and (EvB.of (Ev.cmp (EvD.any (Ev.ixi rfl (EvD.imm (Ev.nm rfl)) (EvD.imm Ev.cst) rfl rfl)) (EvR.of rfl (EvD.imm Ev.cst)) (q_str rfl rfl))) (EvO.and (EvB.of (Ev.cmp (EvD.imm (Ev.nm rfl)) (EvR.of rfl (EvD.any (Ev.ixi rfl (EvD.imm (Ev.nm rfl)) (EvD.imm Ev.cst) rfl rfl))) (q_int rfl rfl))) (EvO.one (EvB.of (Ev.cmp (EvD.imm (Ev.nm rfl)) (EvR.of rfl (EvD.imm Ev.cst)) (q_str rfl rfl)))))))) (by rw [wS_eqM]; simp [q2])) (Bk.ret (St.ret rfl (Ev.lst (EvL.cons (EvD.imm (Ev.tup (EvL.cons (EvD.any (Ev.ixi rfl (EvD.imm (Ev.nm rfl)) (EvD.imm Ev.cst) rfl rfl)) (EvL.cons (EvD.imm Ev.cst) (EvL.cons (EvD.any (Ev.bin (EvD.imm (Ev.nm rfl)) (EvD.any (Ev.ixi rfl (EvD.imm (Ev.nm rfl)) (EvD.imm Ev.cst) rfl rfl)) (b_add rfl rfl))) EvL.nil))) (show 3 ≤ line by decide))) EvL.nil) (show 1 ≤ line by decide)))))))) rfl) rfl)
    · have e : Ru.fc (.ap g h m) p = [] := (if_neg q1).trans (if_neg q2)
      rw [e]
      exact (Cl.cast (Cl.ret rfl (Bk.cons (St.asT (EvD.imm (Ev.nm rfl)) rfl) (Bk.cons (St.iteF (EvB.cast (EvB.of (Ev.bop (EvO.and (EvB.of (Ev.cmp (EvD.any (Ev.ixi rfl (EvD.imm (Ev.nm rfl)) (EvD.imm Ev.cst) rfl rfl)) (EvR.of rfl (EvD.imm Ev.cst)) (q_str rfl rfl))) (EvO.and (EvB.of (Ev.cmp (EvD.imm (Ev.nm rfl)) (EvR.of rfl (EvD.any (Ev.ixi rfl (EvD.imm (Ev.nm rfl)) (EvD.imm Ev.cst) rfl rfl))) (q_int rfl rfl))) (EvO.one (EvB.of (Ev.cmp (EvD.imm (Ev.nm rfl)) (EvR.of rfl (EvD.imm Ev.cst)) (q_str rfl rfl)))))))) (by rw [wS_eqL]; simpa using q1)) Bk.nil) (Bk.cons (St.iteF (EvB.cast (EvB.of (Ev.bop (EvO.and (EvB.of (Ev.cmp (EvD.any (Ev.ixi rfl (EvD.imm (Ev.nm rfl)) (EvD.imm Ev.cst) rfl rfl)) (EvR.of rfl (EvD.imm Ev.cst)) (q_str rfl rfl))) (EvO.and (EvB.of (Ev.cmp (EvD.imm (Ev.nm rfl)) (EvR.of rfl (EvD.any (Ev.ixi rfl (EvD.imm (Ev.nm rfl)) (EvD.imm Ev.cst) rfl rfl))) (q_int rfl rfl))) (EvO.one (EvB.of (Ev.cmp (EvD.imm (Ev.nm rfl)) (EvR.of rfl (EvD.imm Ev.cst)) (q_str rfl rfl)))))))) (by rw [wS_eqM]; simpa using q2)) Bk.nil) (Bk.cons (St.iteF (EvB.cast (EvB.of (Ev.bop (EvO.andF (EvB.cast (EvB.of (Ev.cmp (EvD.any (Ev.ixi rfl (EvD.imm (Ev.nm rfl)) (EvD.imm Ev.cst) rfl rfl)) (EvR.of rfl (EvD.imm Ev.cst)) (q_str rfl rfl))) (by decide +kernel))))) rfl) Bk.nil) (Bk.cons (St.asC (Ev.lst EvL.nil (show 0 ≤ line by decide)) (by decide) (show 2 < 6 by decide)) (Bk.cons (St.iteF (EvB.cast (EvB.of (Ev.bop (EvO.andF (EvB.cast (EvB.of (Ev.cmp (EvD.any (Ev.ixi rfl (EvD.imm (Ev.nm rfl)) (EvD.imm Ev.cst) rfl rfl)) (EvR.of rfl (EvD.imm Ev.cst)) (q_str rfl rfl))) (by decide +kernel))))) rfl) Bk.nil) (Bk.cons (St.iteF (EvB.cast (EvB.of (Ev.bop (EvO.andF (EvB.cast (EvB.of (Ev.cmp (EvD.any (Ev.ixi rfl (EvD.imm (Ev.nm rfl)) (EvD.imm Ev.cst) rfl rfl)) (EvR.of rfl (EvD.imm Ev.cst)) (q_str rfl rfl))) (by decide +kernel))))) rfl) Bk.nil) (Bk.ret (St.ret rfl (Ev.ss (EvR.nm rfl) srt0)))))))))) rfl) rfl)
  | sm g h w m =>
    by_cases q1 : p.w = w ∨ ¬(g = p.g ∨ h = p.g)
    · have e : Ru.fc (.sm g h w m) p = [] := if_pos q1
      rw [e]
      exact (Cl.cast (Cl.ret rfl (Bk.cons (St.asT (EvD.imm (Ev.nm rfl)) rfl) (Bk.cons (St.iteF (EvB.cast (EvB.of (Ev.bop (EvO.andF (EvB.cast (EvB.of (Ev.cmp (EvD.any (Ev.ixi rfl (EvD.imm (Ev.nm rfl)) (EvD.imm Ev.cst) rfl rfl)) (EvR.of rfl (EvD.imm Ev.cst)) (q_str rfl rfl))) nAS)))) rfl) Bk.nil) (Bk.cons (St.iteF (EvB.cast (EvB.of (Ev.bop (EvO.andF (EvB.cast (EvB.of (Ev.cmp (EvD.any (Ev.ixi rfl (EvD.imm (Ev.nm rfl)) (EvD.imm Ev.cst) rfl rfl)) (EvR.of rfl (EvD.imm Ev.cst)) (q_str rfl rfl))) nAS)))) rfl) Bk.nil) (Bk.cons (St.iteF (EvB.cast (EvB.of (Ev.bop (EvO.and (EvB.of (Ev.cmp (EvD.any (Ev.ixi rfl (EvD.imm (Ev.nm rfl)) (EvD.imm Ev.cst) rfl rfl)) (EvR.of rfl (EvD.imm Ev.cst)) (q_str rfl rfl))) (EvO.and (EvB.of (Ev.cmp (EvD.imm (Ev.nm rfl)) (EvR.of rfl (EvD.cel (Ev.lst (EvL.cons (EvD.any (Ev.ixi rfl (EvD.imm (Ev.nm rfl)) (EvD.imm Ev.cst) rfl rfl)) (EvL.cons (EvD.any (Ev.ixi rfl (EvD.imm (Ev.nm rfl)) (EvD.imm Ev.cst) rfl rfl)) EvL.nil)) (show 2 ≤ line by decide)))) in2L)) (EvO.one (EvB.of (Ev.cmp (EvD.imm (Ev.nm rfl)) (EvR.of rfl (EvD.any (Ev.ixi rfl (EvD.imm (Ev.nm rfl)) (EvD.imm Ev.cst) rfl rfl))) (q_ne rfl rfl)))))))) (by rw [wS_inj]; rcases q1 with q | q <;> simp [q])) Bk.nil) (Bk.cons (St.asC (Ev.lst EvL.nil (show 0 ≤ line by decide)) (by decide) (show 2 < 6 by decide)) (Bk.cons (St.iteF (EvB.cast (EvB.of (Ev.bop (EvO.andF (EvB.cast (EvB.of (Ev.cmp (EvD.any (Ev.ixi rfl (EvD.imm (Ev.nm rfl)) (EvD.imm Ev.cst) rfl rfl)) (EvR.of rfl (EvD.imm Ev.cst)) (q_str rfl rfl))) (by decide +kernel))))) rfl) Bk.nil) (Bk.cons (St.iteF (EvB.cast (EvB.of (Ev.bop (EvO.andF (EvB.cast (EvB.of (Ev.cmp (EvD.any (Ev.ixi rfl (EvD.imm (Ev.nm rfl)) (EvD.imm Ev.cst) rfl rfl)) (EvR.of rfl (EvD.imm Ev.cst)) (q_str rfl rfl))) (by decide +kernel))))) rfl) Bk.nil) (Bk.ret (St.ret rfl (Ev.ss (EvR.nm rfl) srt0)))))))))) rfl) rfl)
    · have e : Ru.fc (.sm g h w m) p = [⟨if p.g = g then h else g, w, m - p.m⟩] := if_neg q1
      have a1 : ¬ p.w = w := fun z => q1 (.inl z)
      have a2 : g = p.g ∨ h = p.g := by
        by_cases z : g = p.g ∨ h = p.g
        · exact z
        · exact (q1 (.inr z)).elim
      rw [e]
      exact Cl.cast ((Cl.ret rfl (Bk.cons (St.asT (EvD.imm (Ev.nm rfl)) rfl) (Bk.cons (St.iteF (EvB.cast (EvB.of (Ev.bop (EvO.andF (EvB.cast (EvB.of (Ev.cmp (EvD.any (Ev.ixi rfl (EvD.imm (Ev.nm rfl)) (EvD.imm Ev.cst) rfl rfl)) (EvR.of rfl (EvD.imm Ev.cst)) (q_str rfl rfl))) nAS)))) rfl) Bk.nil) (Bk.cons (St.iteF (EvB.cast (EvB.of (Ev.bop (EvO.andF (EvB.cast (EvB.of (Ev.cmp (EvD.any (Ev.ixi rfl (EvD.imm (Ev.nm rfl)) (EvD.imm Ev.cst) rfl rfl)) (EvR.of rfl (EvD.imm Ev.cst)) (q_str rfl rfl))) nAS)))) rfl) Bk.nil) (Bk.ret (St.iteT (EvB.cast (EvB.of (Ev.bop (EvO.and (EvB.of (Ev.cmp (EvD.any (Ev.ixi rfl (EvD.imm (Ev.nm rfl)) (EvD.imm Ev.cst) rfl rfl)) (EvR.of rfl (EvD.imm Ev.cst)) (q_str rfl rfl))) (EvO.and (EvB.of (Ev.cmp (EvD.imm (Ev.nm rfl)) (EvR.of rfl (EvD.cel (Ev.lst (EvL.cons (EvD.any (Ev.ixi rfl (EvD.imm (Ev.nm rfl)) (EvD.imm Ev.cst) rfl rfl)) (EvL.cons (EvD.any (Ev.ixi rfl (EvD.imm (Ev.nm rfl)) (EvD.imm Ev.cst) rfl rfl)) EvL.nil)) (show 2 ≤ line by decide)))) in2L)) (EvO.one (EvB.of (Ev.cmp (EvD.imm (Ev.nm rfl)) (EvR.of rfl (EvD.any (Ev.ixi rfl (EvD.imm (Ev.nm rfl)) (EvD.imm Ev.cst) rfl rfl))) (q_ne rfl rfl)))))))) (by rw [wS_inj]; rcases a2 with q | q <;> simp [q, a1])) (Bk.ret (St.ret rfl (Ev.lst (EvL.cons (EvD.imm (Ev.tup (EvL.cons (EvD.any (Ev.bin (EvD.any (Ev.bin (EvD.any (Ev.ixi rfl (EvD.imm (Ev.nm rfl)) (EvD.imm Ev.cst) rfl rfl)) (EvD.any (Ev.ixi rfl (EvD.imm (Ev.nm rfl)) (EvD.imm Ev.cst) rfl rfl)) (b_add rfl rfl))) (EvD.imm (Ev.nm rfl)) (b_sub rfl rfl))) (EvL.cons (EvD.any (Ev.ixi rfl (EvD.imm (Ev.nm rfl)) (EvD.imm Ev.cst) rfl rfl)) (EvL.cons (EvD.any (Ev.bin (EvD.any (Ev.ixi rfl (EvD.imm (Ev.nm rfl)) (EvD.imm Ev.cst) rfl rfl)) (EvD.imm (Ev.nm rfl)) (b_sub rfl rfl))) EvL.nil))) (show 3 ≤ line by decide))) EvL.nil) (show 1 ≤ line by decide))))))))) rfl)) (by
        have : g + h - p.g = if p.g = g then h else g := by split <;> omega
        show En.cel [.tup [.int (g + h - p.g), .str (wS w), .int (m - p.m)]] = _
        rw [this]
        rfl)
  | ei a b =>
    have e := fc_srt (a := a) (b := b) (p := p)
    cases h1 : p.op a
    · cases h2 : p.op b
      · rw [← e, h1, h2]
        exact (Cl.cast (Cl.ret rfl (Bk.cons (St.asT (EvD.imm (Ev.nm rfl)) rfl) (Bk.cons (St.iteF (EvB.cast (EvB.of (Ev.bop (EvO.andF (EvB.cast (EvB.of (Ev.cmp (EvD.any (Ev.ixi rfl (EvD.imm (Ev.nm rfl)) (EvD.imm Ev.cst) rfl rfl)) (EvR.of rfl (EvD.imm Ev.cst)) (q_str rfl rfl))) nAE)))) rfl) Bk.nil) (Bk.cons (St.iteF (EvB.cast (EvB.of (Ev.bop (EvO.andF (EvB.cast (EvB.of (Ev.cmp (EvD.any (Ev.ixi rfl (EvD.imm (Ev.nm rfl)) (EvD.imm Ev.cst) rfl rfl)) (EvR.of rfl (EvD.imm Ev.cst)) (q_str rfl rfl))) nAE)))) rfl) Bk.nil) (Bk.cons (St.iteF (EvB.cast (EvB.of (Ev.bop (EvO.andF (EvB.cast (EvB.of (Ev.cmp (EvD.any (Ev.ixi rfl (EvD.imm (Ev.nm rfl)) (EvD.imm Ev.cst) rfl rfl)) (EvR.of rfl (EvD.imm Ev.cst)) (q_str rfl rfl))) nSE)))) rfl) Bk.nil) (Bk.cons (St.asC (Ev.lst EvL.nil (show 0 ≤ line by decide)) (by decide) (show 2 < 6 by decide)) (Bk.cons (St.iteF (EvB.cast (EvB.of (Ev.bop (EvO.and (EvB.of (Ev.cmp (EvD.any (Ev.ixi rfl (EvD.imm (Ev.nm rfl)) (EvD.imm Ev.cst) rfl rfl)) (EvR.of rfl (EvD.imm Ev.cst)) (q_str rfl rfl))) (EvO.one (EvB.of (Ev.own (EvA.val rfl (EvD.imm (Ev.nm rfl)) (EvA.val rfl (EvD.any (Ev.ixi rfl (EvD.imm (Ev.nm rfl)) (EvD.imm Ev.cst) rfl rfl)) EvA.nil)) rfl l_oppose rfl)))))) (by rw [h1]; rfl)) Bk.nil) (Bk.cons (St.iteF (EvB.cast (EvB.of (Ev.bop (EvO.andT (EvB.cast (EvB.of (Ev.cmp (EvD.any (Ev.ixi rfl (EvD.imm (Ev.nm rfl)) (EvD.imm Ev.cst) rfl rfl)) (EvR.of rfl (EvD.imm Ev.cst)) (q_str rfl rfl))) yy) (EvO.andF (EvB.cast (EvB.of (Ev.own (EvA.val rfl (EvD.imm (Ev.nm rfl)) (EvA.val rfl (EvD.any (Ev.ixi rfl (EvD.imm (Ev.nm rfl)) (EvD.imm Ev.cst) rfl rfl)) EvA.nil)) rfl l_oppose rfl)) h2))))) rfl) Bk.nil) (Bk.ret (St.ret rfl (Ev.ss (EvR.nm rfl) srt0)))))))))) rfl) rfl)
      · rw [← e, h1, h2]
        exact (Cl.cast (Cl.ret rfl (Bk.cons (St.asT (EvD.imm (Ev.nm rfl)) rfl) (Bk.cons (St.iteF (EvB.cast (EvB.of (Ev.bop (EvO.andF (EvB.cast (EvB.of (Ev.cmp (EvD.any (Ev.ixi rfl (EvD.imm (Ev.nm rfl)) (EvD.imm Ev.cst) rfl rfl)) (EvR.of rfl (EvD.imm Ev.cst)) (q_str rfl rfl))) nAE)))) rfl) Bk.nil) (Bk.cons (St.iteF (EvB.cast (EvB.of (Ev.bop (EvO.andF (EvB.cast (EvB.of (Ev.cmp (EvD.any (Ev.ixi rfl (EvD.imm (Ev.nm rfl)) (EvD.imm Ev.cst) rfl rfl)) (EvR.of rfl (EvD.imm Ev.cst)) (q_str rfl rfl))) nAE)))) rfl) Bk.nil) (Bk.cons (St.iteF (EvB.cast (EvB.of (Ev.bop (EvO.andF (EvB.cast (EvB.of (Ev.cmp (EvD.any (Ev.ixi rfl (EvD.imm (Ev.nm rfl)) (EvD.imm Ev.cst) rfl rfl)) (EvR.of rfl (EvD.imm Ev.cst)) (q_str rfl rfl))) nSE)))) rfl) Bk.nil) (Bk.cons (St.asC (Ev.lst EvL.nil (show 0 ≤ line by decide)) (by decide) (show 2 < 6 by decide)) (Bk.cons (St.iteF (EvB.cast (EvB.of (Ev.bop (EvO.and (EvB.of (Ev.cmp (EvD.any (Ev.ixi rfl (EvD.imm (Ev.nm rfl)) (EvD.imm Ev.cst) rfl rfl)) (EvR.of rfl (EvD.imm Ev.cst)) (q_str rfl rfl))) (EvO.one (EvB.of (Ev.own (EvA.val rfl (EvD.imm (Ev.nm rfl)) (EvA.val rfl (EvD.any (Ev.ixi rfl (EvD.imm (Ev.nm rfl)) (EvD.imm Ev.cst) rfl rfl)) EvA.nil)) rfl l_oppose rfl)))))) (by rw [h1]; rfl)) Bk.nil) (Bk.cons (St.iteT (EvB.cast (EvB.of (Ev.bop (EvO.andT (EvB.cast (EvB.of (Ev.cmp (EvD.any (Ev.ixi rfl (EvD.imm (Ev.nm rfl)) (EvD.imm Ev.cst) rfl rfl)) (EvR.of rfl (EvD.imm Ev.cst)) (q_str rfl rfl))) yy) (EvO.andT (EvB.cast (EvB.of (Ev.own (EvA.val rfl (EvD.imm (Ev.nm rfl)) (EvA.val rfl (EvD.any (Ev.ixi rfl (EvD.imm (Ev.nm rfl)) (EvD.imm Ev.cst) rfl rfl)) EvA.nil)) rfl l_oppose rfl)) h2) (EvO.one (EvB.of (Ev.cmp (EvD.any (Ev.ixi rfl (EvD.imm (Ev.nm rfl)) (EvD.imm Ev.cst) rfl rfl)) (EvR.nm rfl) (notInD_mk (l := []))))))))) rfl) (Bk.cons (St.app rfl (EvD.any (Ev.ixi rfl (EvD.imm (Ev.nm rfl)) (EvD.imm Ev.cst) rfl rfl)) rfl (Nat.le_of_ble_eq_true rfl)) Bk.nil)) (Bk.ret (St.ret rfl (Ev.ss (EvR.nm rfl) (srtD_mk (l := [a]) (Nat.le_of_ble_eq_true rfl)))))))))))) rfl) rfl)
    · cases h2 : p.op b
      · rw [← e, h1, h2]
        exact (Cl.cast (Cl.ret rfl (Bk.cons (St.asT (EvD.imm (Ev.nm rfl)) rfl) (Bk.cons (St.iteF (EvB.cast (EvB.of (Ev.bop (EvO.andF (EvB.cast (EvB.of (Ev.cmp (EvD.any (Ev.ixi rfl (EvD.imm (Ev.nm rfl)) (EvD.imm Ev.cst) rfl rfl)) (EvR.of rfl (EvD.imm Ev.cst)) (q_str rfl rfl))) nAE)))) rfl) Bk.nil) (Bk.cons (St.iteF (EvB.cast (EvB.of (Ev.bop (EvO.andF (EvB.cast (EvB.of (Ev.cmp (EvD.any (Ev.ixi rfl (EvD.imm (Ev.nm rfl)) (EvD.imm Ev.cst) rfl rfl)) (EvR.of rfl (EvD.imm Ev.cst)) (q_str rfl rfl))) nAE)))) rfl) Bk.nil) (Bk.cons (St.iteF (EvB.cast (EvB.of (Ev.bop (EvO.andF (EvB.cast (EvB.of (Ev.cmp (EvD.any (Ev.ixi rfl (EvD.imm (Ev.nm rfl)) (EvD.imm Ev.cst) rfl rfl)) (EvR.of rfl (EvD.imm Ev.cst)) (q_str rfl rfl))) nSE)))) rfl) Bk.nil) (Bk.cons (St.asC (Ev.lst EvL.nil (show 0 ≤ line by decide)) (by decide) (show 2 < 6 by decide)) (Bk.cons (St.iteT (EvB.cast (EvB.of (Ev.bop (EvO.and (EvB.of (Ev.cmp (EvD.any (Ev.ixi rfl (EvD.imm (Ev.nm rfl)) (EvD.imm Ev.cst) rfl rfl)) (EvR.of rfl (EvD.imm Ev.cst)) (q_str rfl rfl))) (EvO.one (EvB.of (Ev.own (EvA.val rfl (EvD.imm (Ev.nm rfl)) (EvA.val rfl (EvD.any (Ev.ixi rfl (EvD.imm (Ev.nm rfl)) (EvD.imm Ev.cst) rfl rfl)) EvA.nil)) rfl l_oppose rfl)))))) (by rw [h1]; rfl)) (Bk.cons (St.app rfl (EvD.any (Ev.ixi rfl (EvD.imm (Ev.nm rfl)) (EvD.imm Ev.cst) rfl rfl)) rfl (Nat.le_of_ble_eq_true rfl)) Bk.nil)) (Bk.cons (St.iteF (EvB.cast (EvB.of (Ev.bop (EvO.andT (EvB.cast (EvB.of (Ev.cmp (EvD.any (Ev.ixi rfl (EvD.imm (Ev.nm rfl)) (EvD.imm Ev.cst) rfl rfl)) (EvR.of rfl (EvD.imm Ev.cst)) (q_str rfl rfl))) yy) (EvO.andF (EvB.cast (EvB.of (Ev.own (EvA.val rfl (EvD.imm (Ev.nm rfl)) (EvA.val rfl (EvD.any (Ev.ixi rfl (EvD.imm (Ev.nm rfl)) (EvD.imm Ev.cst) rfl rfl)) EvA.nil)) rfl l_oppose rfl)) h2))))) rfl) Bk.nil) (Bk.ret (St.ret rfl (Ev.ss (EvR.nm rfl) (srtD_mk (l := [b]) (Nat.le_of_ble_eq_true rfl)))))))))))) rfl) rfl)
      · cases h3 : [b].contains a
        · rw [← e, h1, h2]
          simp only [if_true, h3]
          exact (Cl.cast (Cl.ret rfl (Bk.cons (St.asT (EvD.imm (Ev.nm rfl)) rfl) (Bk.cons (St.iteF (EvB.cast (EvB.of (Ev.bop (EvO.andF (EvB.cast (EvB.of (Ev.cmp (EvD.any (Ev.ixi rfl (EvD.imm (Ev.nm rfl)) (EvD.imm Ev.cst) rfl rfl)) (EvR.of rfl (EvD.imm Ev.cst)) (q_str rfl rfl))) nAE)))) rfl) Bk.nil) (Bk.cons (St.iteF (EvB.cast (EvB.of (Ev.bop (EvO.andF (EvB.cast (EvB.of (Ev.cmp (EvD.any (Ev.ixi rfl (EvD.imm (Ev.nm rfl)) (EvD.imm Ev.cst) rfl rfl)) (EvR.of rfl (EvD.imm Ev.cst)) (q_str rfl rfl))) nAE)))) rfl) Bk.nil) (Bk.cons (St.iteF (EvB.cast (EvB.of (Ev.bop (EvO.andF (EvB.cast (EvB.of (Ev.cmp (EvD.any (Ev.ixi rfl (EvD.imm (Ev.nm rfl)) (EvD.imm Ev.cst) rfl rfl)) (EvR.of rfl (EvD.imm Ev.cst)) (q_str rfl rfl))) nSE)))) rfl) Bk.nil) (Bk.cons (St.asC (Ev.lst EvL.nil (show 0 ≤ line by decide)) (by decide) (show 2 < 6 by decide)) (Bk.cons (St.iteT (EvB.cast (EvB.of (Ev.bop (EvO.and (EvB.of (Ev.cmp (EvD.any (Ev.ixi rfl (EvD.imm (Ev.nm rfl)) (EvD.imm Ev.cst) rfl rfl)) (EvR.of rfl (EvD.imm Ev.cst)) (q_str rfl rfl))) (EvO.one (EvB.of (Ev.own (EvA.val rfl (EvD.imm (Ev.nm rfl)) (EvA.val rfl (EvD.any (Ev.ixi rfl (EvD.imm (Ev.nm rfl)) (EvD.imm Ev.cst) rfl rfl)) EvA.nil)) rfl l_oppose rfl)))))) (by rw [h1]; rfl)) (Bk.cons (St.app rfl (EvD.any (Ev.ixi rfl (EvD.imm (Ev.nm rfl)) (EvD.imm Ev.cst) rfl rfl)) rfl (Nat.le_of_ble_eq_true rfl)) Bk.nil)) (Bk.cons (St.iteT (EvB.cast (EvB.of (Ev.bop (EvO.andT (EvB.cast (EvB.of (Ev.cmp (EvD.any (Ev.ixi rfl (EvD.imm (Ev.nm rfl)) (EvD.imm Ev.cst) rfl rfl)) (EvR.of rfl (EvD.imm Ev.cst)) (q_str rfl rfl))) yy) (EvO.andT (EvB.cast (EvB.of (Ev.own (EvA.val rfl (EvD.imm (Ev.nm rfl)) (EvA.val rfl (EvD.any (Ev.ixi rfl (EvD.imm (Ev.nm rfl)) (EvD.imm Ev.cst) rfl rfl)) EvA.nil)) rfl l_oppose rfl)) h2) (EvO.one (EvB.of (Ev.cmp (EvD.any (Ev.ixi rfl (EvD.imm (Ev.nm rfl)) (EvD.imm Ev.cst) rfl rfl)) (EvR.nm rfl) (notInD_mk (l := [b]))))))))) (by rw [h3]; rfl)) (Bk.cons (St.app rfl (EvD.any (Ev.ixi rfl (EvD.imm (Ev.nm rfl)) (EvD.imm Ev.cst) rfl rfl)) rfl (Nat.le_of_ble_eq_true rfl)) Bk.nil)) (Bk.ret (St.ret rfl (Ev.ss (EvR.nm rfl) (srtD_mk (l := [b, a]) (Nat.le_of_ble_eq_true rfl)))))))))))) rfl) rfl)
        · rw [← e, h1, h2]
          simp only [if_true, h3]
          exact (Cl.cast (Cl.ret rfl (Bk.cons (St.asT (EvD.imm (Ev.nm rfl)) rfl) (Bk.cons (St.iteF (EvB.cast (EvB.of (Ev.bop (EvO.andF (EvB.cast (EvB.of (Ev.cmp (EvD.any (Ev.ixi rfl (EvD.imm (Ev.nm rfl)) (EvD.imm Ev.cst) rfl rfl)) (EvR.of rfl (EvD.imm Ev.cst)) (q_str rfl rfl))) nAE)))) rfl) Bk.nil) (Bk.cons (St.iteF (EvB.cast (EvB.of (Ev.bop (EvO.andF (EvB.cast (EvB.of (Ev.cmp (EvD.any (Ev.ixi rfl (EvD.imm (Ev.nm rfl)) (EvD.imm Ev.cst) rfl rfl)) (EvR.of rfl (EvD.imm Ev.cst)) (q_str rfl rfl))) nAE)))) rfl) Bk.nil) (Bk.cons (St.iteF (EvB.cast (EvB.of (Ev.bop (EvO.andF (EvB.cast (EvB.of (Ev.cmp (EvD.any (Ev.ixi rfl (EvD.imm (Ev.nm rfl)) (EvD.imm Ev.cst) rfl rfl)) (EvR.of rfl (EvD.imm Ev.cst)) (q_str rfl rfl))) nSE)))) rfl) Bk.nil) (Bk.cons (St.asC (Ev.lst EvL.nil (show 0 ≤ line by decide)) (by decide) (show 2 < 6 by decide)) (Bk.cons (St.iteT (EvB.cast (EvB.of (Ev.bop (EvO.and (EvB.of (Ev.cmp (EvD.any (Ev.ixi rfl (EvD.imm (Ev.nm rfl)) (EvD.imm Ev.cst) rfl rfl)) (EvR.of rfl (EvD.imm Ev.cst)) (q_str rfl rfl))) (EvO.one (EvB.of (Ev.own (EvA.val rfl (EvD.imm (Ev.nm rfl)) (EvA.val rfl (EvD.any (Ev.ixi rfl (EvD.imm (Ev.nm rfl)) (EvD.imm Ev.cst) rfl rfl)) EvA.nil)) rfl l_oppose rfl)))))) (by rw [h1]; rfl)) (Bk.cons (St.app rfl (EvD.any (Ev.ixi rfl (EvD.imm (Ev.nm rfl)) (EvD.imm Ev.cst) rfl rfl)) rfl (Nat.le_of_ble_eq_true rfl)) Bk.nil)) (Bk.cons (St.iteF (EvB.cast (EvB.of (Ev.bop (EvO.andT (EvB.cast (EvB.of (Ev.cmp (EvD.any (Ev.ixi rfl (EvD.imm (Ev.nm rfl)) (EvD.imm Ev.cst) rfl rfl)) (EvR.of rfl (EvD.imm Ev.cst)) (q_str rfl rfl))) yy) (EvO.andT (EvB.cast (EvB.of (Ev.own (EvA.val rfl (EvD.imm (Ev.nm rfl)) (EvA.val rfl (EvD.any (Ev.ixi rfl (EvD.imm (Ev.nm rfl)) (EvD.imm Ev.cst) rfl rfl)) EvA.nil)) rfl l_oppose rfl)) h2) (EvO.one (EvB.of (Ev.cmp (EvD.any (Ev.ixi rfl (EvD.imm (Ev.nm rfl)) (EvD.imm Ev.cst) rfl rfl)) (EvR.nm rfl) (notInD_mk (l := [b]))))))))) (by rw [h3]; rfl)) Bk.nil) (Bk.ret (St.ret rfl (Ev.ss (EvR.nm rfl) (srtD_mk (l := [b]) (Nat.le_of_ble_eq_true rfl)))))))))))) rfl) rfl)
theorem beside {r : Ru} (hB : Bag N l) (hn : N + 20 < Big) (hr : r.ok w) : ∃ (p : Mk) (l' : List D), (∀ k, Cl (phiN ds (k+3)) 28 [.cel l, .imm (.int w), .imm r.d] (.imm p.d) [some l', none, none]) ∧ Ga w p.g ∧ (Ru.nb 400000000000 r → -500000000000 ≤ p.m ∧ p.m ≤ 500000000000) ∧ Bag (N + 10) l' := by
  have or1 : ∀ {x : Str}, decide (x = "bound") = true → (decide (x = "bound") || decide (x = "either")) = true := fun h => by rw [h]; rfl
  have or2 : ∀ {x : Str}, decide (x = "either") = true → (decide (x = "bound") || decide (x = "either")) = true := fun h => by rw [h, Bool.or_true]
  have or3 : ∀ {x : Str}, decide (x = "bound") = false → decide (x = "either") = false → (decide (x = "bound") || decide (x = "either")) = false := fun h h' => by rw [h, h']; rfl
  have hv : ∀ b : Bool, ixD (.lst [.str "most", .str "least"]) (if decide (wS b = "most") then 1 else 0) = some (.str (wS (!b))) := fun b => by
    rw [wS_eqM]
    cases b <;> rfl
  cases r with
  | bd p =>
    obtain ⟨c, l1, h1, c0, c1, B1⟩ := draw (u := 1) hB (by omega) (by decide)
    obtain rfl : c = 0 := by omega
    obtain ⟨d, l2, h2, d0, d1, B2⟩ := draw (u := 5) B1 (by omega) (by decide)
    obtain ⟨e, l3, h3, e0, e1, B3⟩ := draw (u := 7) B2 (by omega) (by decide)
    by_cases q : 0 < d
    · exact ⟨⟨p.g, !p.w, p.m + e - 3⟩, _, fun k => (Cl.cast (Cl.ret rfl (Bk.ret (St.iteT (EvB.cast (EvB.of (Ev.bop (EvO.or (EvB.of (Ev.cmp (EvD.any (Ev.ixi rfl (EvD.imm (Ev.nm rfl)) (EvD.imm Ev.cst) rfl rfl)) (EvR.of rfl (EvD.imm Ev.cst)) (q_str rfl rfl))) (EvO.one (EvB.of (Ev.cmp (EvD.any (Ev.ixi rfl (EvD.imm (Ev.nm rfl)) (EvD.imm Ev.cst) rfl rfl)) (EvR.of rfl (EvD.imm Ev.cst)) (q_str rfl rfl))))))) (or1 yy)) (Bk.cons (St.asT (EvD.any (Ev.ixi rfl (EvD.imm (Ev.nm rfl)) (EvD.any (Ev.bin (EvD.imm Ev.cst) (EvD.any (Ev.own (EvA.slot rfl (EvA.val rfl (EvD.any (Ev.bin (EvD.imm (Ev.b1 (EvR.nm rfl) (by first | exact f_len rfl | exact f_lenL rfl))) (EvD.imm Ev.cst) (b_sub rfl rfl))) EvA.nil)) rfl (h1 _) rfl)) (b_add rfl rfl))) rfl rfl)) rfl) (Bk.cons (St.iteT (EvB.cast (EvB.of (Ev.cmp (EvD.any (Ev.own (EvA.slot rfl (EvA.val rfl (EvD.imm Ev.cst) EvA.nil)) rfl (h2 _) rfl)) (EvR.of rfl (EvD.imm Ev.cst)) (q_gt rfl rfl))) (decide_eq_true q)) (Bk.cons (St.as1 (Ev.ixi rfl (EvD.cel (Ev.lst (EvL.cons (EvD.imm Ev.cst) (EvL.cons (EvD.imm Ev.cst) EvL.nil)) (show 2 ≤ line by decide))) (EvD.imm (Ev.b1 (EvR.of rfl (EvD.imm (Ev.cmp (EvD.imm (Ev.nm rfl)) (EvR.of rfl (EvD.imm Ev.cst)) (q_str rfl rfl)))) (f_intB rfl))) rfl (hv p.w)) rfl) Bk.nil)) (Bk.ret (St.ret rfl (Ev.tup (EvL.cons (EvD.imm (Ev.nm rfl)) (EvL.cons (EvD.imm (Ev.nm rfl)) (EvL.cons (EvD.any (Ev.bin (EvD.any (Ev.bin (EvD.imm (Ev.nm rfl)) (EvD.any (Ev.own (EvA.slot rfl (EvA.val rfl (EvD.imm Ev.cst) EvA.nil)) rfl (h3 _) rfl)) (b_add rfl rfl))) (EvD.imm Ev.cst) (b_sub rfl rfl))) EvL.nil))) (show 3 ≤ line by decide)))))))) rfl) rfl), hr, fun z => (by simp only [Ru.nb] at z; simp only []; omega), B3.up (by omega)⟩
    · exact ⟨⟨p.g, p.w, p.m + e - 3⟩, _, fun k => (Cl.cast (Cl.ret rfl (Bk.ret (St.iteT (EvB.cast (EvB.of (Ev.bop (EvO.or (EvB.of (Ev.cmp (EvD.any (Ev.ixi rfl (EvD.imm (Ev.nm rfl)) (EvD.imm Ev.cst) rfl rfl)) (EvR.of rfl (EvD.imm Ev.cst)) (q_str rfl rfl))) (EvO.one (EvB.of (Ev.cmp (EvD.any (Ev.ixi rfl (EvD.imm (Ev.nm rfl)) (EvD.imm Ev.cst) rfl rfl)) (EvR.of rfl (EvD.imm Ev.cst)) (q_str rfl rfl))))))) (or1 yy)) (Bk.cons (St.asT (EvD.any (Ev.ixi rfl (EvD.imm (Ev.nm rfl)) (EvD.any (Ev.bin (EvD.imm Ev.cst) (EvD.any (Ev.own (EvA.slot rfl (EvA.val rfl (EvD.any (Ev.bin (EvD.imm (Ev.b1 (EvR.nm rfl) (by first | exact f_len rfl | exact f_lenL rfl))) (EvD.imm Ev.cst) (b_sub rfl rfl))) EvA.nil)) rfl (h1 _) rfl)) (b_add rfl rfl))) rfl rfl)) rfl) (Bk.cons (St.iteF (EvB.cast (EvB.of (Ev.cmp (EvD.any (Ev.own (EvA.slot rfl (EvA.val rfl (EvD.imm Ev.cst) EvA.nil)) rfl (h2 _) rfl)) (EvR.of rfl (EvD.imm Ev.cst)) (q_gt rfl rfl))) (decide_eq_false q)) Bk.nil) (Bk.ret (St.ret rfl (Ev.tup (EvL.cons (EvD.imm (Ev.nm rfl)) (EvL.cons (EvD.imm (Ev.nm rfl)) (EvL.cons (EvD.any (Ev.bin (EvD.any (Ev.bin (EvD.imm (Ev.nm rfl)) (EvD.any (Ev.own (EvA.slot rfl (EvA.val rfl (EvD.imm Ev.cst) EvA.nil)) rfl (h3 _) rfl)) (b_add rfl rfl))) (EvD.imm Ev.cst) (b_sub rfl rfl))) EvL.nil))) (show 3 ≤ line by decide)))))))) rfl) rfl), hr, fun z => (by simp only [Ru.nb] at z; simp only []; omega), B3.up (by omega)⟩
  | ei p p' =>
    obtain ⟨c, l1, h1, c0, c1, B1⟩ := draw (u := 2) hB (by omega) (by decide)
    obtain ⟨d, l2, h2, d0, d1, B2⟩ := draw (u := 5) B1 (by omega) (by decide)
    obtain ⟨e, l3, h3, e0, e1, B3⟩ := draw (u := 7) B2 (by omega) (by decide)
    have : c = 0 ∨ c = 1 := by omega
    rcases this with rfl | rfl
    · by_cases q : 0 < d
      · exact ⟨⟨p.g, !p.w, p.m + e - 3⟩, _, fun k => (Cl.cast (Cl.ret rfl (Bk.ret (St.iteT (EvB.cast (EvB.of (Ev.bop (EvO.or (EvB.of (Ev.cmp (EvD.any (Ev.ixi rfl (EvD.imm (Ev.nm rfl)) (EvD.imm Ev.cst) rfl rfl)) (EvR.of rfl (EvD.imm Ev.cst)) (q_str rfl rfl))) (EvO.one (EvB.of (Ev.cmp (EvD.any (Ev.ixi rfl (EvD.imm (Ev.nm rfl)) (EvD.imm Ev.cst) rfl rfl)) (EvR.of rfl (EvD.imm Ev.cst)) (q_str rfl rfl))))))) (or2 yy)) (Bk.cons (St.asT (EvD.any (Ev.ixi rfl (EvD.imm (Ev.nm rfl)) (EvD.any (Ev.bin (EvD.imm Ev.cst) (EvD.any (Ev.own (EvA.slot rfl (EvA.val rfl (EvD.any (Ev.bin (EvD.imm (Ev.b1 (EvR.nm rfl) (by first | exact f_len rfl | exact f_lenL rfl))) (EvD.imm Ev.cst) (b_sub rfl rfl))) EvA.nil)) rfl (h1 _) rfl)) (b_add rfl rfl))) rfl rfl)) rfl) (Bk.cons (St.iteT (EvB.cast (EvB.of (Ev.cmp (EvD.any (Ev.own (EvA.slot rfl (EvA.val rfl (EvD.imm Ev.cst) EvA.nil)) rfl (h2 _) rfl)) (EvR.of rfl (EvD.imm Ev.cst)) (q_gt rfl rfl))) (decide_eq_true q)) (Bk.cons (St.as1 (Ev.ixi rfl (EvD.cel (Ev.lst (EvL.cons (EvD.imm Ev.cst) (EvL.cons (EvD.imm Ev.cst) EvL.nil)) (show 2 ≤ line by decide))) (EvD.imm (Ev.b1 (EvR.of rfl (EvD.imm (Ev.cmp (EvD.imm (Ev.nm rfl)) (EvR.of rfl (EvD.imm Ev.cst)) (q_str rfl rfl)))) (f_intB rfl))) rfl (hv p.w)) rfl) Bk.nil)) (Bk.ret (St.ret rfl (Ev.tup (EvL.cons (EvD.imm (Ev.nm rfl)) (EvL.cons (EvD.imm (Ev.nm rfl)) (EvL.cons (EvD.any (Ev.bin (EvD.any (Ev.bin (EvD.imm (Ev.nm rfl)) (EvD.any (Ev.own (EvA.slot rfl (EvA.val rfl (EvD.imm Ev.cst) EvA.nil)) rfl (h3 _) rfl)) (b_add rfl rfl))) (EvD.imm Ev.cst) (b_sub rfl rfl))) EvL.nil))) (show 3 ≤ line by decide)))))))) rfl) rfl), hr.1, fun z => (by simp only [Ru.nb] at z; simp only []; omega), B3.up (by omega)⟩
      · exact ⟨⟨p.g, p.w, p.m + e - 3⟩, _, fun k => (Cl.cast (Cl.ret rfl (Bk.ret (St.iteT (EvB.cast (EvB.of (Ev.bop (EvO.or (EvB.of (Ev.cmp (EvD.any (Ev.ixi rfl (EvD.imm (Ev.nm rfl)) (EvD.imm Ev.cst) rfl rfl)) (EvR.of rfl (EvD.imm Ev.cst)) (q_str rfl rfl))) (EvO.one (EvB.of (Ev.cmp (EvD.any (Ev.ixi rfl (EvD.imm (Ev.nm rfl)) (EvD.imm Ev.cst) rfl rfl)) (EvR.of rfl (EvD.imm Ev.cst)) (q_str rfl rfl))))))) (or2 yy)) (Bk.cons (St.asT (EvD.any (Ev.ixi rfl (EvD.imm (Ev.nm rfl)) (EvD.any (Ev.bin (EvD.imm Ev.cst) (EvD.any (Ev.own (EvA.slot rfl (EvA.val rfl (EvD.any (Ev.bin (EvD.imm (Ev.b1 (EvR.nm rfl) (by first | exact f_len rfl | exact f_lenL rfl))) (EvD.imm Ev.cst) (b_sub rfl rfl))) EvA.nil)) rfl (h1 _) rfl)) (b_add rfl rfl))) rfl rfl)) rfl) (Bk.cons (St.iteF (EvB.cast (EvB.of (Ev.cmp (EvD.any (Ev.own (EvA.slot rfl (EvA.val rfl (EvD.imm Ev.cst) EvA.nil)) rfl (h2 _) rfl)) (EvR.of rfl (EvD.imm Ev.cst)) (q_gt rfl rfl))) (decide_eq_false q)) Bk.nil) (Bk.ret (St.ret rfl (Ev.tup (EvL.cons (EvD.imm (Ev.nm rfl)) (EvL.cons (EvD.imm (Ev.nm rfl)) (EvL.cons (EvD.any (Ev.bin (EvD.any (Ev.bin (EvD.imm (Ev.nm rfl)) (EvD.any (Ev.own (EvA.slot rfl (EvA.val rfl (EvD.imm Ev.cst) EvA.nil)) rfl (h3 _) rfl)) (b_add rfl rfl))) (EvD.imm Ev.cst) (b_sub rfl rfl))) EvL.nil))) (show 3 ≤ line by decide)))))))) rfl) rfl), hr.1, fun z => (by simp only [Ru.nb] at z; simp only []; omega), B3.up (by omega)⟩
    · by_cases q : 0 < d
      · exact ⟨⟨p'.g, !p'.w, p'.m + e - 3⟩, _, fun k => (Cl.cast (Cl.ret rfl (Bk.ret (St.iteT (EvB.cast (EvB.of (Ev.bop (EvO.or (EvB.of (Ev.cmp (EvD.any (Ev.ixi rfl (EvD.imm (Ev.nm rfl)) (EvD.imm Ev.cst) rfl rfl)) (EvR.of rfl (EvD.imm Ev.cst)) (q_str rfl rfl))) (EvO.one (EvB.of (Ev.cmp (EvD.any (Ev.ixi rfl (EvD.imm (Ev.nm rfl)) (EvD.imm Ev.cst) rfl rfl)) (EvR.of rfl (EvD.imm Ev.cst)) (q_str rfl rfl))))))) (or2 yy)) (Bk.cons (St.asT (EvD.any (Ev.ixi rfl (EvD.imm (Ev.nm rfl)) (EvD.any (Ev.bin (EvD.imm Ev.cst) (EvD.any (Ev.own (EvA.slot rfl (EvA.val rfl (EvD.any (Ev.bin (EvD.imm (Ev.b1 (EvR.nm rfl) (by first | exact f_len rfl | exact f_lenL rfl))) (EvD.imm Ev.cst) (b_sub rfl rfl))) EvA.nil)) rfl (h1 _) rfl)) (b_add rfl rfl))) rfl rfl)) rfl) (Bk.cons (St.iteT (EvB.cast (EvB.of (Ev.cmp (EvD.any (Ev.own (EvA.slot rfl (EvA.val rfl (EvD.imm Ev.cst) EvA.nil)) rfl (h2 _) rfl)) (EvR.of rfl (EvD.imm Ev.cst)) (q_gt rfl rfl))) (decide_eq_true q)) (Bk.cons (St.as1 (Ev.ixi rfl (EvD.cel (Ev.lst (EvL.cons (EvD.imm Ev.cst) (EvL.cons (EvD.imm Ev.cst) EvL.nil)) (show 2 ≤ line by decide))) (EvD.imm (Ev.b1 (EvR.of rfl (EvD.imm (Ev.cmp (EvD.imm (Ev.nm rfl)) (EvR.of rfl (EvD.imm Ev.cst)) (q_str rfl rfl)))) (f_intB rfl))) rfl (hv p'.w)) rfl) Bk.nil)) (Bk.ret (St.ret rfl (Ev.tup (EvL.cons (EvD.imm (Ev.nm rfl)) (EvL.cons (EvD.imm (Ev.nm rfl)) (EvL.cons (EvD.any (Ev.bin (EvD.any (Ev.bin (EvD.imm (Ev.nm rfl)) (EvD.any (Ev.own (EvA.slot rfl (EvA.val rfl (EvD.imm Ev.cst) EvA.nil)) rfl (h3 _) rfl)) (b_add rfl rfl))) (EvD.imm Ev.cst) (b_sub rfl rfl))) EvL.nil))) (show 3 ≤ line by decide)))))))) rfl) rfl), hr.2, fun z => (by simp only [Ru.nb] at z; simp only []; omega), B3.up (by omega)⟩
      · exact ⟨⟨p'.g, p'.w, p'.m + e - 3⟩, _, fun k => (Cl.cast (Cl.ret rfl (Bk.ret (St.iteT (EvB.cast (EvB.of (Ev.bop (EvO.or (EvB.of (Ev.cmp (EvD.any (Ev.ixi rfl (EvD.imm (Ev.nm rfl)) (EvD.imm Ev.cst) rfl rfl)) (EvR.of rfl (EvD.imm Ev.cst)) (q_str rfl rfl))) (EvO.one (EvB.of (Ev.cmp (EvD.any (Ev.ixi rfl (EvD.imm (Ev.nm rfl)) (EvD.imm Ev.cst) rfl rfl)) (EvR.of rfl (EvD.imm Ev.cst)) (q_str rfl rfl))))))) (or2 yy)) (Bk.cons (St.asT (EvD.any (Ev.ixi rfl (EvD.imm (Ev.nm rfl)) (EvD.any (Ev.bin (EvD.imm Ev.cst) (EvD.any (Ev.own (EvA.slot rfl (EvA.val rfl (EvD.any (Ev.bin (EvD.imm (Ev.b1 (EvR.nm rfl) (by first | exact f_len rfl | exact f_lenL rfl))) (EvD.imm Ev.cst) (b_sub rfl rfl))) EvA.nil)) rfl (h1 _) rfl)) (b_add rfl rfl))) rfl rfl)) rfl) (Bk.cons (St.iteF (EvB.cast (EvB.of (Ev.cmp (EvD.any (Ev.own (EvA.slot rfl (EvA.val rfl (EvD.imm Ev.cst) EvA.nil)) rfl (h2 _) rfl)) (EvR.of rfl (EvD.imm Ev.cst)) (q_gt rfl rfl))) (decide_eq_false q)) Bk.nil) (Bk.ret (St.ret rfl (Ev.tup (EvL.cons (EvD.imm (Ev.nm rfl)) (EvL.cons (EvD.imm (Ev.nm rfl)) (EvL.cons (EvD.any (Ev.bin (EvD.any (Ev.bin (EvD.imm (Ev.nm rfl)) (EvD.any (Ev.own (EvA.slot rfl (EvA.val rfl (EvD.imm Ev.cst) EvA.nil)) rfl (h3 _) rfl)) (b_add rfl rfl))) (EvD.imm Ev.cst) (b_sub rfl rfl))) EvL.nil))) (show 3 ≤ line by decide)))))))) rfl) rfl), hr.2, fun z => (by simp only [Ru.nb] at z; simp only []; omega), B3.up (by omega)⟩
  | ap g h m =>
    obtain ⟨c, l1, h1, c0, c1, B1⟩ := draw (u := 2) hB (by omega) (by decide)
    obtain ⟨b, l2, h2, B2⟩ := way B1 (by omega)
    obtain ⟨v, l3, h3, hv, B3⟩ := number B2 (by omega)
    have : c = 0 ∨ c = 1 := by omega
    rcases this with rfl | rfl
    · exact ⟨⟨g, b, v⟩, _, fun k => (Cl.cast (Cl.ret rfl (Bk.cons (St.iteF (EvB.cast (EvB.of (Ev.bop (EvO.or (EvB.of (Ev.cmp (EvD.any (Ev.ixi rfl (EvD.imm (Ev.nm rfl)) (EvD.imm Ev.cst) rfl rfl)) (EvR.of rfl (EvD.imm Ev.cst)) (q_str rfl rfl))) (EvO.one (EvB.of (Ev.cmp (EvD.any (Ev.ixi rfl (EvD.imm (Ev.nm rfl)) (EvD.imm Ev.cst) rfl rfl)) (EvR.of rfl (EvD.imm Ev.cst)) (q_str rfl rfl))))))) (or3 nBA (by decide +kernel))) Bk.nil) (Bk.cons (St.asT (EvD.imm (Ev.tup (EvL.cons (EvD.any (Ev.ixi rfl (EvD.imm (Ev.nm rfl)) (EvD.any (Ev.bin (EvD.imm Ev.cst) (EvD.any (Ev.own (EvA.slot rfl (EvA.val rfl (EvD.imm Ev.cst) EvA.nil)) rfl (h1 _) rfl)) (b_add rfl rfl))) rfl rfl)) (EvL.cons (EvD.any (Ev.own (EvA.slot rfl EvA.nil) rfl (h2 _) rfl)) EvL.nil)) (show 2 ≤ line by decide))) rfl) (Bk.ret (St.ret rfl (Ev.tup (EvL.cons (EvD.imm (Ev.nm rfl)) (EvL.cons (EvD.imm (Ev.nm rfl)) (EvL.cons (EvD.any (Ev.own (EvA.slot rfl EvA.nil) rfl (h3 _) rfl)) EvL.nil))) (show 3 ≤ line by decide)))))) rfl) rfl), hr.1, fun z => (by simp only [Ru.nb] at z; simp only []; omega), B3.up (by omega)⟩
    · exact ⟨⟨h, b, v⟩, _, fun k => (Cl.cast (Cl.ret rfl (Bk.cons (St.iteF (EvB.cast (EvB.of (Ev.bop (EvO.or (EvB.of (Ev.cmp (EvD.any (Ev.ixi rfl (EvD.imm (Ev.nm rfl)) (EvD.imm Ev.cst) rfl rfl)) (EvR.of rfl (EvD.imm Ev.cst)) (q_str rfl rfl))) (EvO.one (EvB.of (Ev.cmp (EvD.any (Ev.ixi rfl (EvD.imm (Ev.nm rfl)) (EvD.imm Ev.cst) rfl rfl)) (EvR.of rfl (EvD.imm Ev.cst)) (q_str rfl rfl))))))) (or3 nBA (by decide +kernel))) Bk.nil) (Bk.cons (St.asT (EvD.imm (Ev.tup (EvL.cons (EvD.any (Ev.ixi rfl (EvD.imm (Ev.nm rfl)) (EvD.any (Ev.bin (EvD.imm Ev.cst) (EvD.any (Ev.own (EvA.slot rfl (EvA.val rfl (EvD.imm Ev.cst) EvA.nil)) rfl (h1 _) rfl)) (b_add rfl rfl))) rfl rfl)) (EvL.cons (EvD.any (Ev.own (EvA.slot rfl EvA.nil) rfl (h2 _) rfl)) EvL.nil)) (show 2 ≤ line by decide))) rfl) (Bk.ret (St.ret rfl (Ev.tup (EvL.cons (EvD.imm (Ev.nm rfl)) (EvL.cons (EvD.imm (Ev.nm rfl)) (EvL.cons (EvD.any (Ev.own (EvA.slot rfl EvA.nil) rfl (h3 _) rfl)) EvL.nil))) (show 3 ≤ line by decide)))))) rfl) rfl), hr.2.1, fun z => (by simp only [Ru.nb] at z; simp only []; omega), B3.up (by omega)⟩
  | sm g h x m =>
    obtain ⟨c, l1, h1, c0, c1, B1⟩ := draw (u := 2) hB (by omega) (by decide)
    obtain ⟨b, l2, h2, B2⟩ := way B1 (by omega)
    obtain ⟨v, l3, h3, hv, B3⟩ := number B2 (by omega)
    have : c = 0 ∨ c = 1 := by omega
    rcases this with rfl | rfl
    · exact ⟨⟨g, b, v⟩, _, fun k => (Cl.cast (Cl.ret rfl (Bk.cons (St.iteF (EvB.cast (EvB.of (Ev.bop (EvO.or (EvB.of (Ev.cmp (EvD.any (Ev.ixi rfl (EvD.imm (Ev.nm rfl)) (EvD.imm Ev.cst) rfl rfl)) (EvR.of rfl (EvD.imm Ev.cst)) (q_str rfl rfl))) (EvO.one (EvB.of (Ev.cmp (EvD.any (Ev.ixi rfl (EvD.imm (Ev.nm rfl)) (EvD.imm Ev.cst) rfl rfl)) (EvR.of rfl (EvD.imm Ev.cst)) (q_str rfl rfl))))))) (or3 nBS (by decide +kernel))) Bk.nil) (Bk.cons (St.asT (EvD.imm (Ev.tup (EvL.cons (EvD.any (Ev.ixi rfl (EvD.imm (Ev.nm rfl)) (EvD.any (Ev.bin (EvD.imm Ev.cst) (EvD.any (Ev.own (EvA.slot rfl (EvA.val rfl (EvD.imm Ev.cst) EvA.nil)) rfl (h1 _) rfl)) (b_add rfl rfl))) rfl rfl)) (EvL.cons (EvD.any (Ev.own (EvA.slot rfl EvA.nil) rfl (h2 _) rfl)) EvL.nil)) (show 2 ≤ line by decide))) rfl) (Bk.ret (St.ret rfl (Ev.tup (EvL.cons (EvD.imm (Ev.nm rfl)) (EvL.cons (EvD.imm (Ev.nm rfl)) (EvL.cons (EvD.any (Ev.own (EvA.slot rfl EvA.nil) rfl (h3 _) rfl)) EvL.nil))) (show 3 ≤ line by decide)))))) rfl) rfl), hr.1, fun z => (by simp only [Ru.nb] at z; simp only []; omega), B3.up (by omega)⟩
    · exact ⟨⟨h, b, v⟩, _, fun k => (Cl.cast (Cl.ret rfl (Bk.cons (St.iteF (EvB.cast (EvB.of (Ev.bop (EvO.or (EvB.of (Ev.cmp (EvD.any (Ev.ixi rfl (EvD.imm (Ev.nm rfl)) (EvD.imm Ev.cst) rfl rfl)) (EvR.of rfl (EvD.imm Ev.cst)) (q_str rfl rfl))) (EvO.one (EvB.of (Ev.cmp (EvD.any (Ev.ixi rfl (EvD.imm (Ev.nm rfl)) (EvD.imm Ev.cst) rfl rfl)) (EvR.of rfl (EvD.imm Ev.cst)) (q_str rfl rfl))))))) (or3 nBS (by decide +kernel))) Bk.nil) (Bk.cons (St.asT (EvD.imm (Ev.tup (EvL.cons (EvD.any (Ev.ixi rfl (EvD.imm (Ev.nm rfl)) (EvD.any (Ev.bin (EvD.imm Ev.cst) (EvD.any (Ev.own (EvA.slot rfl (EvA.val rfl (EvD.imm Ev.cst) EvA.nil)) rfl (h1 _) rfl)) (b_add rfl rfl))) rfl rfl)) (EvL.cons (EvD.any (Ev.own (EvA.slot rfl EvA.nil) rfl (h2 _) rfl)) EvL.nil)) (show 2 ≤ line by decide))) rfl) (Bk.ret (St.ret rfl (Ev.tup (EvL.cons (EvD.imm (Ev.nm rfl)) (EvL.cons (EvD.imm (Ev.nm rfl)) (EvL.cons (EvD.any (Ev.own (EvA.slot rfl EvA.nil) rfl (h3 _) rfl)) EvL.nil))) (show 3 ≤ line by decide)))))) rfl) rfl), hr.2.1, fun z => (by simp only [Ru.nb] at z; simp only []; omega), B3.up (by omega)⟩
end La
set_option maxHeartbeats 0
namespace La
open PySem L2 Mx
variable {k : Nat} {n w : Int} {s : List Int} {l : List D} {N : Nat}
theorem e12 : (((10 : Nat) : Int)) ^ 12 = 1000000000000 := by decide
theorem flip_b {f m : Int} (h : f = 0 ∨ f = 1) (hm : 0 ≤ m ∧ m ≤ 1000000000000) : -2000000000000 ≤ (2 * f - 1) * m ∧ (2 * f - 1) * m ≤ 2000000000000 := by
  rcases h with rfl | rfl <;> omega
theorem far (hB : Bag N l) (hn : N + 20 < Big) (hw : 2 ≤ w ∧ w ≤ 5) : ∃ (r : Ru) (p : Mk) (l' : List D), (∀ k, Cl (phiN ds (k+3)) 29 [.cel l, .imm (.int w)] (.imm (.tup [r.d, p.d])) [some l', none]) ∧ r.ok w ∧ Ga w p.g ∧ (-2000000000000 ≤ p.m ∧ p.m ≤ 2000000000000) ∧ Ru.nb 2000000000000 r ∧ Bag (N + 10) l' := by
  obtain ⟨lo, hi, l1, h1, g1, g2, lt, B1⟩ := two (w := w) hB (by omega) hw
  obtain ⟨a, l2, h2, a0, a1, B2⟩ := draw (u := 3) B1 (by omega) (by decide)
  obtain ⟨b, l3, h3, b0, b1, B3⟩ := draw (u := 3) B2 (by omega) (by decide)
  obtain ⟨f, l4, h4, f0, f1, B4⟩ := draw (u := 2) B3 (by omega) (by decide)
  obtain ⟨t, l5, h5, t0, t1, B5⟩ := draw (u := 2) B4 (by omega) (by decide)
  obtain ⟨d, l6, h6, d0, d1, B6⟩ := draw (u := 2) B5 (by omega) (by decide)
  obtain ⟨x, l7, h7, B7⟩ := way B6 (by omega)
  obtain ⟨e, l8, h8, e0, e1, B8⟩ := draw (u := 2) B7 (by omega) (by decide)
  have m1 := flip_b (f := f) (m := ((10 : Nat) : Int) ^ 12 - 1 - b) (by omega) (by rw [e12]; omega)
  have m2 := flip_b (f := t) (m := ((10 : Nat) : Int) ^ 12 - 1 - a) (by omega) (by rw [e12]; omega)
  obtain ⟨g, hg, gg⟩ : ∃ g : Int, ixD (.lst [.int lo, .int hi]) d = some (.int g) ∧ Ga w g := by
    have : d = 0 ∨ d = 1 := by omega
    rcases this with rfl | rfl
    · exact ⟨lo, rfl, g1⟩
    · exact ⟨hi, rfl, g2⟩
  by_cases q : e = 0
  · obtain ⟨y, l9, h9, B9⟩ := way B8 (by omega)
    exact ⟨.sm lo hi y ((2 * t - 1) * (((10 : Nat) : Int) ^ 12 - 1 - a)), ⟨g, x, (2 * f - 1) * (((10 : Nat) : Int) ^ 12 - 1 - b)⟩, _, fun k => (Cl.cast (Cl.ret rfl (Bk.cons (St.asT (EvD.any (Ev.own (EvA.slot rfl (EvA.val rfl (EvD.imm (Ev.nm rfl)) EvA.nil)) rfl (h1 _) rfl)) rfl) (Bk.cons (St.asT (EvD.imm (Ev.tup (EvL.cons (EvD.any (Ev.bin (EvD.any (Ev.bin (EvD.any (Ev.bin (EvD.imm Ev.cst) (EvD.imm Ev.cst) (b_pow (p := 10) (q := 12) rfl rfl ⟨by decide, by decide⟩))) (EvD.imm Ev.cst) (b_sub rfl rfl))) (EvD.any (Ev.own (EvA.slot rfl (EvA.val rfl (EvD.imm Ev.cst) EvA.nil)) rfl (h2 _) rfl)) (b_sub rfl rfl))) (EvL.cons (EvD.any (Ev.bin (EvD.any (Ev.bin (EvD.any (Ev.bin (EvD.imm Ev.cst) (EvD.imm Ev.cst) (b_pow (p := 10) (q := 12) rfl rfl ⟨by decide, by decide⟩))) (EvD.imm Ev.cst) (b_sub rfl rfl))) (EvD.any (Ev.own (EvA.slot rfl (EvA.val rfl (EvD.imm Ev.cst) EvA.nil)) rfl (h3 _) rfl)) (b_sub rfl rfl))) EvL.nil)) (show 2 ≤ line by decide))) rfl) (Bk.cons (St.asT (EvD.imm (Ev.tup (EvL.cons (EvD.any (Ev.bin (EvD.any (Ev.bin (EvD.imm Ev.cst) (EvD.any (Ev.own (EvA.slot rfl (EvA.val rfl (EvD.imm Ev.cst) EvA.nil)) rfl (h4 _) rfl)) (b_mul rfl rfl (mulL (by decide))))) (EvD.imm Ev.cst) (b_sub rfl rfl))) (EvL.cons (EvD.any (Ev.bin (EvD.any (Ev.bin (EvD.imm Ev.cst) (EvD.any (Ev.own (EvA.slot rfl (EvA.val rfl (EvD.imm Ev.cst) EvA.nil)) rfl (h5 _) rfl)) (b_mul rfl rfl (mulL (by decide))))) (EvD.imm Ev.cst) (b_sub rfl rfl))) EvL.nil)) (show 2 ≤ line by decide))) rfl) (Bk.cons (St.as1 (Ev.tup (EvL.cons (EvD.any (Ev.ixi rfl (EvD.cel (Ev.lst (EvL.cons (EvD.imm (Ev.nm rfl)) (EvL.cons (EvD.imm (Ev.nm rfl)) EvL.nil)) (show 2 ≤ line by decide))) (EvD.any (Ev.own (EvA.slot rfl (EvA.val rfl (EvD.imm Ev.cst) EvA.nil)) rfl (h6 _) rfl)) rfl hg)) (EvL.cons (EvD.any (Ev.own (EvA.slot rfl EvA.nil) rfl (h7 _) rfl)) (EvL.cons (EvD.any (Ev.bin (EvD.imm (Ev.nm rfl)) (EvD.imm (Ev.nm rfl)) (b_mul rfl rfl (mulL (by omega))))) EvL.nil))) (show 3 ≤ line by decide)) rfl) (Bk.ret (St.iteT (EvB.cast (EvB.of (Ev.cmp (EvD.any (Ev.own (EvA.slot rfl (EvA.val rfl (EvD.imm Ev.cst) EvA.nil)) rfl (h8 _) rfl)) (EvR.of rfl (EvD.imm Ev.cst)) (q_int rfl rfl))) (decide_eq_true q)) (Bk.ret (St.ret rfl (Ev.tup (EvL.cons (EvD.imm (Ev.tup (EvL.cons (EvD.imm Ev.cst) (EvL.cons (EvD.imm (Ev.nm rfl)) (EvL.cons (EvD.imm (Ev.nm rfl)) (EvL.cons (EvD.any (Ev.own (EvA.slot rfl EvA.nil) rfl (h9 _) rfl)) (EvL.cons (EvD.any (Ev.bin (EvD.imm (Ev.nm rfl)) (EvD.imm (Ev.nm rfl)) (b_mul rfl rfl (mulL (by omega))))) EvL.nil))))) (show 5 ≤ line by decide))) (EvL.cons (EvD.imm (Ev.nm rfl)) EvL.nil)) (show 2 ≤ line by decide)))))))))) rfl) rfl), ⟨g1, g2, lt⟩, gg, m1, m2, B9.up (by omega)⟩
  · exact ⟨.ap lo hi ((2 * t - 1) * (((10 : Nat) : Int) ^ 12 - 1 - a)), ⟨g, x, (2 * f - 1) * (((10 : Nat) : Int) ^ 12 - 1 - b)⟩, _, fun k => (Cl.cast (Cl.ret rfl (Bk.cons (St.asT (EvD.any (Ev.own (EvA.slot rfl (EvA.val rfl (EvD.imm (Ev.nm rfl)) EvA.nil)) rfl (h1 _) rfl)) rfl) (Bk.cons (St.asT (EvD.imm (Ev.tup (EvL.cons (EvD.any (Ev.bin (EvD.any (Ev.bin (EvD.any (Ev.bin (EvD.imm Ev.cst) (EvD.imm Ev.cst) (b_pow (p := 10) (q := 12) rfl rfl ⟨by decide, by decide⟩))) (EvD.imm Ev.cst) (b_sub rfl rfl))) (EvD.any (Ev.own (EvA.slot rfl (EvA.val rfl (EvD.imm Ev.cst) EvA.nil)) rfl (h2 _) rfl)) (b_sub rfl rfl))) (EvL.cons (EvD.any (Ev.bin (EvD.any (Ev.bin (EvD.any (Ev.bin (EvD.imm Ev.cst) (EvD.imm Ev.cst) (b_pow (p := 10) (q := 12) rfl rfl ⟨by decide, by decide⟩))) (EvD.imm Ev.cst) (b_sub rfl rfl))) (EvD.any (Ev.own (EvA.slot rfl (EvA.val rfl (EvD.imm Ev.cst) EvA.nil)) rfl (h3 _) rfl)) (b_sub rfl rfl))) EvL.nil)) (show 2 ≤ line by decide))) rfl) (Bk.cons (St.asT (EvD.imm (Ev.tup (EvL.cons (EvD.any (Ev.bin (EvD.any (Ev.bin (EvD.imm Ev.cst) (EvD.any (Ev.own (EvA.slot rfl (EvA.val rfl (EvD.imm Ev.cst) EvA.nil)) rfl (h4 _) rfl)) (b_mul rfl rfl (mulL (by decide))))) (EvD.imm Ev.cst) (b_sub rfl rfl))) (EvL.cons (EvD.any (Ev.bin (EvD.any (Ev.bin (EvD.imm Ev.cst) (EvD.any (Ev.own (EvA.slot rfl (EvA.val rfl (EvD.imm Ev.cst) EvA.nil)) rfl (h5 _) rfl)) (b_mul rfl rfl (mulL (by decide))))) (EvD.imm Ev.cst) (b_sub rfl rfl))) EvL.nil)) (show 2 ≤ line by decide))) rfl) (Bk.cons (St.as1 (Ev.tup (EvL.cons (EvD.any (Ev.ixi rfl (EvD.cel (Ev.lst (EvL.cons (EvD.imm (Ev.nm rfl)) (EvL.cons (EvD.imm (Ev.nm rfl)) EvL.nil)) (show 2 ≤ line by decide))) (EvD.any (Ev.own (EvA.slot rfl (EvA.val rfl (EvD.imm Ev.cst) EvA.nil)) rfl (h6 _) rfl)) rfl hg)) (EvL.cons (EvD.any (Ev.own (EvA.slot rfl EvA.nil) rfl (h7 _) rfl)) (EvL.cons (EvD.any (Ev.bin (EvD.imm (Ev.nm rfl)) (EvD.imm (Ev.nm rfl)) (b_mul rfl rfl (mulL (by omega))))) EvL.nil))) (show 3 ≤ line by decide)) rfl) (Bk.cons (St.iteF (EvB.cast (EvB.of (Ev.cmp (EvD.any (Ev.own (EvA.slot rfl (EvA.val rfl (EvD.imm Ev.cst) EvA.nil)) rfl (h8 _) rfl)) (EvR.of rfl (EvD.imm Ev.cst)) (q_int rfl rfl))) (decide_eq_false q)) Bk.nil) (Bk.ret (St.ret rfl (Ev.tup (EvL.cons (EvD.imm (Ev.tup (EvL.cons (EvD.imm Ev.cst) (EvL.cons (EvD.imm (Ev.nm rfl)) (EvL.cons (EvD.imm (Ev.nm rfl)) (EvL.cons (EvD.any (Ev.bin (EvD.imm (Ev.nm rfl)) (EvD.imm (Ev.nm rfl)) (b_mul rfl rfl (mulL (by omega))))) EvL.nil)))) (show 4 ≤ line by decide))) (EvL.cons (EvD.imm (Ev.nm rfl)) EvL.nil)) (show 2 ≤ line by decide))))))))) rfl) rfl), ⟨g1, g2, by omega⟩, gg, m1, m2, B8.up (by omega)⟩
theorem fc_nb {r : Ru} {p c : Mk} (hr : Ru.nb 2000000000000 r) (hp : -2000000000000 ≤ p.m ∧ p.m ≤ 2000000000000) (h : c ∈ r.fc p) : -1000000000000000000 ≤ c.m ∧ c.m ≤ 1000000000000000000 := by
  cases r with
  | bd _ => cases h
  | ap g h' m =>
    simp only [Ru.fc] at h
    simp only [Ru.nb] at hr
    split at h
    · cases List.mem_singleton.mp h; simp only []; omega
    · split at h
      · cases List.mem_singleton.mp h; simp only []; omega
      · cases h
  | sm g h' w m =>
    simp only [Ru.fc] at h
    simp only [Ru.nb] at hr
    split at h
    · cases h
    · cases List.mem_singleton.mp h; simp only []; omega
  | ei a b =>
    simp only [Ru.nb] at hr
    rcases fc_ei.mp h with ⟨rfl, _⟩ | ⟨rfl, _⟩ <;> omega
theorem fc_len {r : Ru} {p : Mk} : (r.fc p).length ≤ 10 := by
  cases r with
  | bd _ => exact Nat.zero_le _
  | ap g h k => simp only [Ru.fc]; split <;> (try split) <;> simp
  | sm g h x k => simp only [Ru.fc]; split <;> simp
  | ei a b =>
    show (if a.lt b then fcE a b p else fcE b a p).length ≤ 10
    split <;> (unfold fcE; split <;> split <;> simp)
theorem op_con {q : Mk} : q.con.op q = true := by
  obtain ⟨g, w, m⟩ := q
  cases w <;> simp [Mk.con, Mk.op] <;> omega
theorem op_self {q : Mk} : q.op q = false := by simp [Mk.op]
abbrev LB : List CS := [(.as1 2 (.own 18 [(.fz (.nm 1))])), (.asT [9, 10] (.tup [(.bin .Add (.cst (.int 1)) (.own 19 [(.nm 2), (.fz (.cst (.int 5)))])), (.own 19 [(.nm 2), (.fz (.cst (.int 4)))])])), (.as1 3 (.own 24 [(.nm 2), (.fz (.nm 9))])), (.as1 4 (.own 22 [(.nm 2), (.fz (.nm 9))])), (.ite (.cmp .Gt (.nm 10) (.cst (.int 0))) [(.as1 4 (.own 28 [(.nm 2), (.nm 9), (.fz (.nm 3))]))] []), (.ite (.bop .And [(.cmp .Gt (.nm 9) (.cst (.int 1))), (.cmp .Eq (.own 19 [(.nm 2), (.fz (.cst (.int 6)))]) (.cst (.int 0)))]) [(.asT [3, 4] (.own 29 [(.nm 2), (.fz (.nm 9))]))] []), (.as1 5 (.own 27 [(.fz (.nm 3)), (.fz (.nm 4))])), (.as1 6 (.own 13 [(.fz (.nm 9)), (.fz (.nm 3)), (.fz (.nm 4))])), (.ite (.cmp .NotEq (.b1 .repr (.nm 6)) (.b1 .repr (.nm 5))) [(.ret (.cst (.bl false)))] []), (.app (.nm 6) (.tup [(.cst (.int 0)), (.cst (.str "least")), (.cst (.int 0))])), (.ite (.cmp .NotEq (.b1 .repr (.ownK 13 [] [(.nm 4), (.nm 3), (.nm 9)] [2, 1, 0])) (.b1 .repr (.nm 5))) [(.ret (.cst (.bl false)))] []), (.as1 4 (.own 22 [(.nm 2), (.fz (.nm 9))])), (.as1 7 (.tup [(.cst (.str "either")), (.nm 4), (.nm 4)])), (.as1 8 (.own 25 [(.fz (.nm 4))])), (.ite (.cmp .NotEq (.b1 .repr (.lst [(.own 13 [(.fz (.nm 9)), (.fz (.nm 7)), (.fz (.nm 8))]), (.own 13 [(.fz (.nm 9)), (.fz (.nm 7)), (.fz (.nm 4))])])) (.b1 .repr (.lst [(.lst [(.nm 4)]), (.lst [])]))) [(.ret (.cst (.bl false)))] []), (.ite (.bop .And [(.cmp .Eq (.ix (.nm 3) (.cst (.int 0))) (.cst (.str "bound"))), (.cmp .NotEq (.nm 5) (.lst []))]) [(.ret (.cst (.bl false)))] [])]
def Shp0 (sc : Option En) (ρ : Rho) : Prop := ∃ t1 t2 t3 t4 t5 t6 t7 t8 t9 t10, ρ = [sc, t1, t2, t3, t4, t5, t6, t7, t8, t9, t10]
theorem eqN {x : Str} : (!decide (x = x)) = false := by simp
theorem rest {c x y : Int} {sc u1 u2 u3 u4 : Option En} {r : Ru} {p : Mk} (hw : 1 ≤ w ∧ w ≤ 5) (hr : r.ok w) (hp : Ga w p.g) (br : Ru.nb 2000000000000 r) (bp : -2000000000000 ≤ p.m ∧ p.m ≤ 2000000000000) (hB : Bag N l) (hn : N + 20 < Big) :
    ∃ ρ', Bk (phiN ds (k+7)) 1 59 [(.as1 5 (.own 27 [(.fz (.nm 3)), (.fz (.nm 4))])), (.as1 6 (.own 13 [(.fz (.nm 9)), (.fz (.nm 3)), (.fz (.nm 4))])), (.ite (.cmp .NotEq (.b1 .repr (.nm 6)) (.b1 .repr (.nm 5))) [(.ret (.cst (.bl false)))] []), (.app (.nm 6) (.tup [(.cst (.int 0)), (.cst (.str "least")), (.cst (.int 0))])), (.ite (.cmp .NotEq (.b1 .repr (.ownK 13 [] [(.nm 4), (.nm 3), (.nm 9)] [2, 1, 0])) (.b1 .repr (.nm 5))) [(.ret (.cst (.bl false)))] []), (.as1 4 (.own 22 [(.nm 2), (.fz (.nm 9))])), (.as1 7 (.tup [(.cst (.str "either")), (.nm 4), (.nm 4)])), (.as1 8 (.own 25 [(.fz (.nm 4))])), (.ite (.cmp .NotEq (.b1 .repr (.lst [(.own 13 [(.fz (.nm 9)), (.fz (.nm 7)), (.fz (.nm 8))]), (.own 13 [(.fz (.nm 9)), (.fz (.nm 7)), (.fz (.nm 4))])])) (.b1 .repr (.lst [(.lst [(.nm 4)]), (.lst [])]))) [(.ret (.cst (.bl false)))] []), (.ite (.bop .And [(.cmp .Eq (.ix (.nm 3) (.cst (.int 0))) (.cst (.str "bound"))), (.cmp .NotEq (.nm 5) (.lst []))]) [(.ret (.cst (.bl false)))] [])] [sc, some (.imm (.int c)), some (.cel l), some (.imm r.d), some (.imm p.d), u1, u2, u3, u4, some (.imm (.int w)), some (.imm (.int y))] .nx ρ' ∧ Shp0 sc ρ' := by
  obtain ⟨q, l1, h1, gq, bq, B1⟩ := mark (w := w) hB (by omega) hw
  have mb : ∀ c ∈ r.fc p, MkB c := fun c hc => ⟨by have := (fc_ok hc hr).lo; have := (fc_ok hc hr).hi; omega, fc_nb br bp hc⟩
  have R1 : RO (.lst (dMs (r.fc p))) := ro_mks mb (Nat.le_trans fc_len (by decide))
  have mq : MkB q := ⟨by have := gq.lo; have := gq.hi; omega, by omega⟩
  have R2 : RO (.lst [.lst (dMs [q]), .lst (dMs [])]) := Sz.ro (n := 900000) (dp := 3) ((sz_lst (n := 400000) (dp := 2) (l := [.lst (dMs [q]), .lst (dMs [])]) (by
    intro d hd
    rcases List.mem_cons.mp hd with rfl | hd
    · exact sz_mks (by simpa using mq) (by simp)
    rcases List.mem_cons.mp hd with rfl | hd
    · exact sz_mks (by simp) (by simp)
    · cases hd)).up (show 2 * (400000 + 2) + 4 ≤ 900000 by decide) (by decide)) (by decide) (by decide)
  have okd : (Ru.ei q q).ok w := ⟨gq, gq⟩
  have f1 : Cl (phiN ds (k+7)) 13 [.imm (.int w), .imm (Ru.ei q q).d, .imm q.con.d] (.cel (dMs [q])) [none, none, none] := by
    have e : (Ru.ei q q).fc q.con = [q] := by
      show (if q.lt q then fcE q q q.con else fcE q q q.con) = _
      unfold fcE
      simp [op_con]
    rw [← e]
    exact c_forced hw okd (p := q.con) gq
  have f2 : Cl (phiN ds (k+7)) 13 [.imm (.int w), .imm (Ru.ei q q).d, .imm q.d] (.cel (dMs [])) [none, none, none] := by
    have e : (Ru.ei q q).fc q = [] := by
      show (if q.lt q then fcE q q q else fcE q q q) = _
      unfold fcE
      simp [op_self]
    rw [← e]
    exact c_forced hw okd gq
  have lA : (dMs (r.fc p)).length < line := Nat.lt_of_le_of_lt (show (dMs (r.fc p)).length ≤ 10 by rw [dMs, List.length_map]; exact fc_len) (by decide)
  cases r with
  | bd b => exact ⟨_, (Bk.cons (St.asC (Ev.own (EvA.val rfl (EvD.imm (Ev.nm rfl)) (EvA.val rfl (EvD.imm (Ev.nm rfl)) EvA.nil)) rfl l_forced rfl) (by decide) (show 5 < 11 by decide)) (Bk.cons (St.asC (Ev.own (EvA.val rfl (EvD.imm (Ev.nm rfl)) (EvA.val rfl (EvD.imm (Ev.nm rfl)) (EvA.val rfl (EvD.imm (Ev.nm rfl)) EvA.nil))) rfl (c_forced hw hr hp) rfl) (by decide) (show 6 < 11 by decide)) (Bk.cons (St.iteF (EvB.cast (EvB.of (Ev.cmp (EvD.imm (Ev.b1 (EvR.nm rfl) (f_repr R1))) (EvR.of rfl (EvD.imm (Ev.b1 (EvR.nm rfl) (f_repr R1)))) (q_ne rfl rfl))) eqN) Bk.nil) (Bk.cons (St.app rfl (EvD.imm (Ev.tup (EvL.cons (EvD.imm Ev.cst) (EvL.cons (EvD.imm Ev.cst) (EvL.cons (EvD.imm Ev.cst) EvL.nil))) (show 3 ≤ line by decide))) rfl lA) (Bk.cons (St.iteF (EvB.cast (EvB.of (Ev.cmp (EvD.imm (Ev.b1 (EvR.of rfl (EvD.any (Ev.ownK EvA.nil (EvL.cons (EvD.imm (Ev.nm rfl)) (EvL.cons (EvD.imm (Ev.nm rfl)) (EvL.cons (EvD.imm (Ev.nm rfl)) EvL.nil))) rfl (c_forced hw hr hp) rfl))) (f_repr R1))) (EvR.of rfl (EvD.imm (Ev.b1 (EvR.nm rfl) (f_repr R1)))) (q_ne rfl rfl))) eqN) Bk.nil) (Bk.cons (St.as1 (Ev.own (EvA.slot rfl (EvA.val rfl (EvD.imm (Ev.nm rfl)) EvA.nil)) rfl (h1 _) rfl) rfl) (Bk.cons (St.as1 (Ev.tup (EvL.cons (EvD.imm Ev.cst) (EvL.cons (EvD.imm (Ev.nm rfl)) (EvL.cons (EvD.imm (Ev.nm rfl)) EvL.nil))) (show 3 ≤ line by decide)) rfl) (Bk.cons (St.as1 (Ev.own (EvA.val rfl (EvD.imm (Ev.nm rfl)) EvA.nil) rfl l_contrary rfl) rfl) (Bk.cons (St.iteF (EvB.cast (EvB.of (Ev.cmp (EvD.imm (Ev.b1 (EvR.of rfl (EvD.cel (Ev.lst (EvL.cons (EvD.any (Ev.own (EvA.val rfl (EvD.imm (Ev.nm rfl)) (EvA.val rfl (EvD.imm (Ev.nm rfl)) (EvA.val rfl (EvD.imm (Ev.nm rfl)) EvA.nil))) rfl f1 rfl)) (EvL.cons (EvD.any (Ev.own (EvA.val rfl (EvD.imm (Ev.nm rfl)) (EvA.val rfl (EvD.imm (Ev.nm rfl)) (EvA.val rfl (EvD.imm (Ev.nm rfl)) EvA.nil))) rfl f2 rfl)) EvL.nil)) (show 2 ≤ line by decide)))) (f_repr R2))) (EvR.of rfl (EvD.imm (Ev.b1 (EvR.of rfl (EvD.cel (Ev.lst (EvL.cons (EvD.cel (Ev.lst (EvL.cons (EvD.imm (Ev.nm rfl)) EvL.nil) (show 1 ≤ line by decide))) (EvL.cons (EvD.cel (Ev.lst EvL.nil (show 0 ≤ line by decide))) EvL.nil)) (show 2 ≤ line by decide)))) (f_repr R2)))) (q_ne rfl rfl))) eqN) Bk.nil) (Bk.cons (St.iteF (EvB.cast (EvB.of (Ev.bop (EvO.andT (EvB.cast (EvB.of (Ev.cmp (EvD.any (Ev.ixi rfl (EvD.imm (Ev.nm rfl)) (EvD.imm Ev.cst) rfl rfl)) (EvR.of rfl (EvD.imm Ev.cst)) (q_str rfl rfl))) yy) (EvO.one (EvB.of (Ev.cmp (EvD.imm (Ev.nmc rfl)) (EvR.of rfl (EvD.cel (Ev.lst EvL.nil (show 0 ≤ line by decide)))) (q_neNil (l := []) ⟨rfl, by show (1 : Nat) ≤ 60; decide⟩))))))) rfl) Bk.nil) Bk.nil)))))))))), _, _, _, _, _, _, _, _, _, _, rfl⟩
  | ap g h m => exact ⟨_, (Bk.cons (St.asC (Ev.own (EvA.val rfl (EvD.imm (Ev.nm rfl)) (EvA.val rfl (EvD.imm (Ev.nm rfl)) EvA.nil)) rfl l_forced rfl) (by decide) (show 5 < 11 by decide)) (Bk.cons (St.asC (Ev.own (EvA.val rfl (EvD.imm (Ev.nm rfl)) (EvA.val rfl (EvD.imm (Ev.nm rfl)) (EvA.val rfl (EvD.imm (Ev.nm rfl)) EvA.nil))) rfl (c_forced hw hr hp) rfl) (by decide) (show 6 < 11 by decide)) (Bk.cons (St.iteF (EvB.cast (EvB.of (Ev.cmp (EvD.imm (Ev.b1 (EvR.nm rfl) (f_repr R1))) (EvR.of rfl (EvD.imm (Ev.b1 (EvR.nm rfl) (f_repr R1)))) (q_ne rfl rfl))) eqN) Bk.nil) (Bk.cons (St.app rfl (EvD.imm (Ev.tup (EvL.cons (EvD.imm Ev.cst) (EvL.cons (EvD.imm Ev.cst) (EvL.cons (EvD.imm Ev.cst) EvL.nil))) (show 3 ≤ line by decide))) rfl lA) (Bk.cons (St.iteF (EvB.cast (EvB.of (Ev.cmp (EvD.imm (Ev.b1 (EvR.of rfl (EvD.any (Ev.ownK EvA.nil (EvL.cons (EvD.imm (Ev.nm rfl)) (EvL.cons (EvD.imm (Ev.nm rfl)) (EvL.cons (EvD.imm (Ev.nm rfl)) EvL.nil))) rfl (c_forced hw hr hp) rfl))) (f_repr R1))) (EvR.of rfl (EvD.imm (Ev.b1 (EvR.nm rfl) (f_repr R1)))) (q_ne rfl rfl))) eqN) Bk.nil) (Bk.cons (St.as1 (Ev.own (EvA.slot rfl (EvA.val rfl (EvD.imm (Ev.nm rfl)) EvA.nil)) rfl (h1 _) rfl) rfl) (Bk.cons (St.as1 (Ev.tup (EvL.cons (EvD.imm Ev.cst) (EvL.cons (EvD.imm (Ev.nm rfl)) (EvL.cons (EvD.imm (Ev.nm rfl)) EvL.nil))) (show 3 ≤ line by decide)) rfl) (Bk.cons (St.as1 (Ev.own (EvA.val rfl (EvD.imm (Ev.nm rfl)) EvA.nil) rfl l_contrary rfl) rfl) (Bk.cons (St.iteF (EvB.cast (EvB.of (Ev.cmp (EvD.imm (Ev.b1 (EvR.of rfl (EvD.cel (Ev.lst (EvL.cons (EvD.any (Ev.own (EvA.val rfl (EvD.imm (Ev.nm rfl)) (EvA.val rfl (EvD.imm (Ev.nm rfl)) (EvA.val rfl (EvD.imm (Ev.nm rfl)) EvA.nil))) rfl f1 rfl)) (EvL.cons (EvD.any (Ev.own (EvA.val rfl (EvD.imm (Ev.nm rfl)) (EvA.val rfl (EvD.imm (Ev.nm rfl)) (EvA.val rfl (EvD.imm (Ev.nm rfl)) EvA.nil))) rfl f2 rfl)) EvL.nil)) (show 2 ≤ line by decide)))) (f_repr R2))) (EvR.of rfl (EvD.imm (Ev.b1 (EvR.of rfl (EvD.cel (Ev.lst (EvL.cons (EvD.cel (Ev.lst (EvL.cons (EvD.imm (Ev.nm rfl)) EvL.nil) (show 1 ≤ line by decide))) (EvL.cons (EvD.cel (Ev.lst EvL.nil (show 0 ≤ line by decide))) EvL.nil)) (show 2 ≤ line by decide)))) (f_repr R2)))) (q_ne rfl rfl))) eqN) Bk.nil) (Bk.cons (St.iteF (EvB.cast (EvB.of (Ev.bop (EvO.andF (EvB.cast (EvB.of (Ev.cmp (EvD.any (Ev.ixi rfl (EvD.imm (Ev.nm rfl)) (EvD.imm Ev.cst) rfl rfl)) (EvR.of rfl (EvD.imm Ev.cst)) (q_str rfl rfl))) nBA)))) rfl) Bk.nil) Bk.nil)))))))))), _, _, _, _, _, _, _, _, _, _, rfl⟩
  | sm g h x m => exact ⟨_, (Bk.cons (St.asC (Ev.own (EvA.val rfl (EvD.imm (Ev.nm rfl)) (EvA.val rfl (EvD.imm (Ev.nm rfl)) EvA.nil)) rfl l_forced rfl) (by decide) (show 5 < 11 by decide)) (Bk.cons (St.asC (Ev.own (EvA.val rfl (EvD.imm (Ev.nm rfl)) (EvA.val rfl (EvD.imm (Ev.nm rfl)) (EvA.val rfl (EvD.imm (Ev.nm rfl)) EvA.nil))) rfl (c_forced hw hr hp) rfl) (by decide) (show 6 < 11 by decide)) (Bk.cons (St.iteF (EvB.cast (EvB.of (Ev.cmp (EvD.imm (Ev.b1 (EvR.nm rfl) (f_repr R1))) (EvR.of rfl (EvD.imm (Ev.b1 (EvR.nm rfl) (f_repr R1)))) (q_ne rfl rfl))) eqN) Bk.nil) (Bk.cons (St.app rfl (EvD.imm (Ev.tup (EvL.cons (EvD.imm Ev.cst) (EvL.cons (EvD.imm Ev.cst) (EvL.cons (EvD.imm Ev.cst) EvL.nil))) (show 3 ≤ line by decide))) rfl lA) (Bk.cons (St.iteF (EvB.cast (EvB.of (Ev.cmp (EvD.imm (Ev.b1 (EvR.of rfl (EvD.any (Ev.ownK EvA.nil (EvL.cons (EvD.imm (Ev.nm rfl)) (EvL.cons (EvD.imm (Ev.nm rfl)) (EvL.cons (EvD.imm (Ev.nm rfl)) EvL.nil))) rfl (c_forced hw hr hp) rfl))) (f_repr R1))) (EvR.of rfl (EvD.imm (Ev.b1 (EvR.nm rfl) (f_repr R1)))) (q_ne rfl rfl))) eqN) Bk.nil) (Bk.cons (St.as1 (Ev.own (EvA.slot rfl (EvA.val rfl (EvD.imm (Ev.nm rfl)) EvA.nil)) rfl (h1 _) rfl) rfl) (Bk.cons (St.as1 (Ev.tup (EvL.cons (EvD.imm Ev.cst) (EvL.cons (EvD.imm (Ev.nm rfl)) (EvL.cons (EvD.imm (Ev.nm rfl)) EvL.nil))) (show 3 ≤ line by decide)) rfl) (Bk.cons (St.as1 (Ev.own (EvA.val rfl (EvD.imm (Ev.nm rfl)) EvA.nil) rfl l_contrary rfl) rfl) (Bk.cons (St.iteF (EvB.cast (EvB.of (Ev.cmp (EvD.imm (Ev.b1 (EvR.of rfl (EvD.cel (Ev.lst (EvL.cons (EvD.any (Ev.own (EvA.val rfl (EvD.imm (Ev.nm rfl)) (EvA.val rfl (EvD.imm (Ev.nm rfl)) (EvA.val rfl (EvD.imm (Ev.nm rfl)) EvA.nil))) rfl f1 rfl)) (EvL.cons (EvD.any (Ev.own (EvA.val rfl (EvD.imm (Ev.nm rfl)) (EvA.val rfl (EvD.imm (Ev.nm rfl)) (EvA.val rfl (EvD.imm (Ev.nm rfl)) EvA.nil))) rfl f2 rfl)) EvL.nil)) (show 2 ≤ line by decide)))) (f_repr R2))) (EvR.of rfl (EvD.imm (Ev.b1 (EvR.of rfl (EvD.cel (Ev.lst (EvL.cons (EvD.cel (Ev.lst (EvL.cons (EvD.imm (Ev.nm rfl)) EvL.nil) (show 1 ≤ line by decide))) (EvL.cons (EvD.cel (Ev.lst EvL.nil (show 0 ≤ line by decide))) EvL.nil)) (show 2 ≤ line by decide)))) (f_repr R2)))) (q_ne rfl rfl))) eqN) Bk.nil) (Bk.cons (St.iteF (EvB.cast (EvB.of (Ev.bop (EvO.andF (EvB.cast (EvB.of (Ev.cmp (EvD.any (Ev.ixi rfl (EvD.imm (Ev.nm rfl)) (EvD.imm Ev.cst) rfl rfl)) (EvR.of rfl (EvD.imm Ev.cst)) (q_str rfl rfl))) nBS)))) rfl) Bk.nil) Bk.nil)))))))))), _, _, _, _, _, _, _, _, _, _, rfl⟩
  | ei a b => exact ⟨_, (Bk.cons (St.asC (Ev.own (EvA.val rfl (EvD.imm (Ev.nm rfl)) (EvA.val rfl (EvD.imm (Ev.nm rfl)) EvA.nil)) rfl l_forced rfl) (by decide) (show 5 < 11 by decide)) (Bk.cons (St.asC (Ev.own (EvA.val rfl (EvD.imm (Ev.nm rfl)) (EvA.val rfl (EvD.imm (Ev.nm rfl)) (EvA.val rfl (EvD.imm (Ev.nm rfl)) EvA.nil))) rfl (c_forced hw hr hp) rfl) (by decide) (show 6 < 11 by decide)) (Bk.cons (St.iteF (EvB.cast (EvB.of (Ev.cmp (EvD.imm (Ev.b1 (EvR.nm rfl) (f_repr R1))) (EvR.of rfl (EvD.imm (Ev.b1 (EvR.nm rfl) (f_repr R1)))) (q_ne rfl rfl))) eqN) Bk.nil) (Bk.cons (St.app rfl (EvD.imm (Ev.tup (EvL.cons (EvD.imm Ev.cst) (EvL.cons (EvD.imm Ev.cst) (EvL.cons (EvD.imm Ev.cst) EvL.nil))) (show 3 ≤ line by decide))) rfl lA) (Bk.cons (St.iteF (EvB.cast (EvB.of (Ev.cmp (EvD.imm (Ev.b1 (EvR.of rfl (EvD.any (Ev.ownK EvA.nil (EvL.cons (EvD.imm (Ev.nm rfl)) (EvL.cons (EvD.imm (Ev.nm rfl)) (EvL.cons (EvD.imm (Ev.nm rfl)) EvL.nil))) rfl (c_forced hw hr hp) rfl))) (f_repr R1))) (EvR.of rfl (EvD.imm (Ev.b1 (EvR.nm rfl) (f_repr R1)))) (q_ne rfl rfl))) eqN) Bk.nil) (Bk.cons (St.as1 (Ev.own (EvA.slot rfl (EvA.val rfl (EvD.imm (Ev.nm rfl)) EvA.nil)) rfl (h1 _) rfl) rfl) (Bk.cons (St.as1 (Ev.tup (EvL.cons (EvD.imm Ev.cst) (EvL.cons (EvD.imm (Ev.nm rfl)) (EvL.cons (EvD.imm (Ev.nm rfl)) EvL.nil))) (show 3 ≤ line by decide)) rfl) (Bk.cons (St.as1 (Ev.own (EvA.val rfl (EvD.imm (Ev.nm rfl)) EvA.nil) rfl l_contrary rfl) rfl) (Bk.cons (St.iteF (EvB.cast (EvB.of (Ev.cmp (EvD.imm (Ev.b1 (EvR.of rfl (EvD.cel (Ev.lst (EvL.cons (EvD.any (Ev.own (EvA.val rfl (EvD.imm (Ev.nm rfl)) (EvA.val rfl (EvD.imm (Ev.nm rfl)) (EvA.val rfl (EvD.imm (Ev.nm rfl)) EvA.nil))) rfl f1 rfl)) (EvL.cons (EvD.any (Ev.own (EvA.val rfl (EvD.imm (Ev.nm rfl)) (EvA.val rfl (EvD.imm (Ev.nm rfl)) (EvA.val rfl (EvD.imm (Ev.nm rfl)) EvA.nil))) rfl f2 rfl)) EvL.nil)) (show 2 ≤ line by decide)))) (f_repr R2))) (EvR.of rfl (EvD.imm (Ev.b1 (EvR.of rfl (EvD.cel (Ev.lst (EvL.cons (EvD.cel (Ev.lst (EvL.cons (EvD.imm (Ev.nm rfl)) EvL.nil) (show 1 ≤ line by decide))) (EvL.cons (EvD.cel (Ev.lst EvL.nil (show 0 ≤ line by decide))) EvL.nil)) (show 2 ≤ line by decide)))) (f_repr R2)))) (q_ne rfl rfl))) eqN) Bk.nil) (Bk.cons (St.iteF (EvB.cast (EvB.of (Ev.bop (EvO.andF (EvB.cast (EvB.of (Ev.cmp (EvD.any (Ev.ixi rfl (EvD.imm (Ev.nm rfl)) (EvD.imm Ev.cst) rfl rfl)) (EvR.of rfl (EvD.imm Ev.cst)) (q_str rfl rfl))) nBE)))) rfl) Bk.nil) Bk.nil)))))))))), _, _, _, _, _, _, _, _, _, _, rfl⟩
theorem Ru.nb.up {r : Ru} (h : Ru.nb 400000000000 r) : Ru.nb 2000000000000 r := by
  cases r <;> simp only [Ru.nb] at h ⊢ <;> omega
theorem body {c : Int} {sc t2 t3 t4 t5 t6 t7 t8 t9 t10 : Option En} : ∃ ρ', Bk (phiN ds (k+7)) 1 59 LB [sc, some (.imm (.int c)), t2, t3, t4, t5, t6, t7, t8, t9, t10] .nx ρ' ∧ Shp0 sc ρ' := by
  obtain ⟨l0, h0, B0⟩ := bag0 (c := c)
  obtain ⟨x, l1, h1, x0, x1, B1⟩ := draw (u := 5) B0 (by decide) (by decide)
  obtain ⟨y, l2, h2, y0, y1, B2⟩ := draw (u := 4) B1 (by decide) (by decide)
  have hw : 1 ≤ 1 + x ∧ 1 + x ≤ 5 := by omega
  obtain ⟨r, l3, h3, hr, br, B3⟩ := term (w := 1 + x) B2 (by decide) hw
  obtain ⟨p0, l4, h4, hp0, bp0, B4⟩ := mark (w := 1 + x) B3 (by decide) hw
  -- from the look at two gauges on
  have tail : ∀ {l5 : List D} {p : Mk}, Ga (1 + x) p.g → (-500000000000 ≤ p.m ∧ p.m ≤ 500000000000) → Bag 100 l5 → ∃ ρ', Bk (phiN ds (k+7)) 1 59 [(.ite (.bop .And [(.cmp .Gt (.nm 9) (.cst (.int 1))), (.cmp .Eq (.own 19 [(.nm 2), (.fz (.cst (.int 6)))]) (.cst (.int 0)))]) [(.asT [3, 4] (.own 29 [(.nm 2), (.fz (.nm 9))]))] []), (.as1 5 (.own 27 [(.fz (.nm 3)), (.fz (.nm 4))])), (.as1 6 (.own 13 [(.fz (.nm 9)), (.fz (.nm 3)), (.fz (.nm 4))])), (.ite (.cmp .NotEq (.b1 .repr (.nm 6)) (.b1 .repr (.nm 5))) [(.ret (.cst (.bl false)))] []), (.app (.nm 6) (.tup [(.cst (.int 0)), (.cst (.str "least")), (.cst (.int 0))])), (.ite (.cmp .NotEq (.b1 .repr (.ownK 13 [] [(.nm 4), (.nm 3), (.nm 9)] [2, 1, 0])) (.b1 .repr (.nm 5))) [(.ret (.cst (.bl false)))] []), (.as1 4 (.own 22 [(.nm 2), (.fz (.nm 9))])), (.as1 7 (.tup [(.cst (.str "either")), (.nm 4), (.nm 4)])), (.as1 8 (.own 25 [(.fz (.nm 4))])), (.ite (.cmp .NotEq (.b1 .repr (.lst [(.own 13 [(.fz (.nm 9)), (.fz (.nm 7)), (.fz (.nm 8))]), (.own 13 [(.fz (.nm 9)), (.fz (.nm 7)), (.fz (.nm 4))])])) (.b1 .repr (.lst [(.lst [(.nm 4)]), (.lst [])]))) [(.ret (.cst (.bl false)))] []), (.ite (.bop .And [(.cmp .Eq (.ix (.nm 3) (.cst (.int 0))) (.cst (.str "bound"))), (.cmp .NotEq (.nm 5) (.lst []))]) [(.ret (.cst (.bl false)))] [])] [sc, some (.imm (.int c)), some (.cel l5), some (.imm r.d), some (.imm p.d), t5, t6, t7, t8, some (.imm (.int (1 + x))), some (.imm (.int y))] .nx ρ' ∧ Shp0 sc ρ' := by
    intro l5 p hp bp B5
    by_cases q : 1 < 1 + x
    · obtain ⟨d, l6, h6, d0, d1, B6⟩ := draw (u := 6) B5 (by decide) (by decide)
      by_cases q2 : d = 0
      · obtain ⟨r', p', l7, h7, hr', hp', bp', br', B7⟩ := far (w := 1 + x) B6 (by decide) (by omega)
        obtain ⟨ρ', e, S⟩ := rest (k := k) (c := c) (x := x) (y := y) hw hr' hp' br' bp' B7 (by decide)
        exact ⟨ρ', (Bk.cons (St.iteT (EvB.cast (EvB.of (Ev.bop (EvO.andT (EvB.cast (EvB.of (Ev.cmp (EvD.imm (Ev.nm rfl)) (EvR.of rfl (EvD.imm Ev.cst)) (q_gt rfl rfl))) (decide_eq_true q)) (EvO.one (EvB.of (Ev.cmp (EvD.any (Ev.own (EvA.slot rfl (EvA.val rfl (EvD.imm Ev.cst) EvA.nil)) rfl (h6 _) rfl)) (EvR.of rfl (EvD.imm Ev.cst)) (q_int rfl rfl))))))) (decide_eq_true q2)) (Bk.cons (St.asT (EvD.any (Ev.own (EvA.slot rfl (EvA.val rfl (EvD.imm (Ev.nm rfl)) EvA.nil)) rfl (h7 _) rfl)) rfl) Bk.nil)) e), S⟩
      · obtain ⟨ρ', e, S⟩ := rest (k := k) (c := c) (x := x) (y := y) hw hr hp br.up (by omega) B6 (by decide)
        exact ⟨ρ', (Bk.cons (St.iteF (EvB.cast (EvB.of (Ev.bop (EvO.andT (EvB.cast (EvB.of (Ev.cmp (EvD.imm (Ev.nm rfl)) (EvR.of rfl (EvD.imm Ev.cst)) (q_gt rfl rfl))) (decide_eq_true q)) (EvO.one (EvB.of (Ev.cmp (EvD.any (Ev.own (EvA.slot rfl (EvA.val rfl (EvD.imm Ev.cst) EvA.nil)) rfl (h6 _) rfl)) (EvR.of rfl (EvD.imm Ev.cst)) (q_int rfl rfl))))))) (decide_eq_false q2)) Bk.nil) e), S⟩
    · obtain ⟨ρ', e, S⟩ := rest (k := k) (c := c) (x := x) (y := y) hw hr hp br.up (by omega) B5 (by decide)
      exact ⟨ρ', (Bk.cons (St.iteF (EvB.cast (EvB.of (Ev.bop (EvO.andF (EvB.cast (EvB.of (Ev.cmp (EvD.imm (Ev.nm rfl)) (EvR.of rfl (EvD.imm Ev.cst)) (q_gt rfl rfl))) (decide_eq_false q))))) rfl) Bk.nil) e), S⟩
  by_cases q : 0 < y
  · obtain ⟨p, l5, h5, hp, bp, B5⟩ := beside B4 (by decide) hr
    obtain ⟨ρ', e, S⟩ := tail hp (bp br) (B5.up (by decide))
    exact ⟨ρ', (Bk.cons (St.asC (Ev.own (EvA.val rfl (EvD.imm (Ev.nm rfl)) EvA.nil) rfl (h0 _) rfl) (by decide) (show 2 < 11 by decide)) (Bk.cons (St.asT (EvD.imm (Ev.tup (EvL.cons (EvD.any (Ev.bin (EvD.imm Ev.cst) (EvD.any (Ev.own (EvA.slot rfl (EvA.val rfl (EvD.imm Ev.cst) EvA.nil)) rfl (h1 _) rfl)) (b_add rfl rfl))) (EvL.cons (EvD.any (Ev.own (EvA.slot rfl (EvA.val rfl (EvD.imm Ev.cst) EvA.nil)) rfl (h2 _) rfl)) EvL.nil)) (show 2 ≤ line by decide))) rfl) (Bk.cons (St.as1 (Ev.own (EvA.slot rfl (EvA.val rfl (EvD.imm (Ev.nm rfl)) EvA.nil)) rfl (h3 _) rfl) rfl) (Bk.cons (St.as1 (Ev.own (EvA.slot rfl (EvA.val rfl (EvD.imm (Ev.nm rfl)) EvA.nil)) rfl (h4 _) rfl) rfl) (Bk.cons (St.iteT (EvB.cast (EvB.of (Ev.cmp (EvD.imm (Ev.nm rfl)) (EvR.of rfl (EvD.imm Ev.cst)) (q_gt rfl rfl))) (decide_eq_true q)) (Bk.cons (St.as1 (Ev.own (EvA.slot rfl (EvA.val rfl (EvD.imm (Ev.nm rfl)) (EvA.val rfl (EvD.imm (Ev.nm rfl)) EvA.nil))) rfl (h5 _) rfl) rfl) Bk.nil)) e))))), S⟩
  · obtain ⟨ρ', e, S⟩ := tail hp0 (by omega) (B4.up (by decide))
    exact ⟨ρ', (Bk.cons (St.asC (Ev.own (EvA.val rfl (EvD.imm (Ev.nm rfl)) EvA.nil) rfl (h0 _) rfl) (by decide) (show 2 < 11 by decide)) (Bk.cons (St.asT (EvD.imm (Ev.tup (EvL.cons (EvD.any (Ev.bin (EvD.imm Ev.cst) (EvD.any (Ev.own (EvA.slot rfl (EvA.val rfl (EvD.imm Ev.cst) EvA.nil)) rfl (h1 _) rfl)) (b_add rfl rfl))) (EvL.cons (EvD.any (Ev.own (EvA.slot rfl (EvA.val rfl (EvD.imm Ev.cst) EvA.nil)) rfl (h2 _) rfl)) EvL.nil)) (show 2 ≤ line by decide))) rfl) (Bk.cons (St.as1 (Ev.own (EvA.slot rfl (EvA.val rfl (EvD.imm (Ev.nm rfl)) EvA.nil)) rfl (h3 _) rfl) rfl) (Bk.cons (St.as1 (Ev.own (EvA.slot rfl (EvA.val rfl (EvD.imm (Ev.nm rfl)) EvA.nil)) rfl (h4 _) rfl) rfl) (Bk.cons (St.iteF (EvB.cast (EvB.of (Ev.cmp (EvD.imm (Ev.nm rfl)) (EvR.of rfl (EvD.imm Ev.cst)) (q_gt rfl rfl))) (decide_eq_false q)) Bk.nil) e))))), S⟩
theorem cl_law (ns : List Int) (hn : ns.length ≤ 63) : Cl (phiN ds (k+8)) 30 [.imm (.lst (ns.map D.int))] (.imm (.bl true)) [none] := by
  refine law_loop (S := Shp0 (some (.imm (.lst (ns.map D.int))))) hn rfl (by decide) ⟨_, it_all hn⟩ ⟨_, _, _, _, _, _, _, _, _, _, rfl⟩ ?_ ?_
  · rintro ρ ⟨t1, t2, t3, t4, t5, t6, t7, t8, t9, t10, rfl⟩
    rfl
  · rintro c ρ ⟨t1, t2, t3, t4, t5, t6, t7, t8, t9, t10, rfl⟩
    exact body
theorem main : ∀ ns : List Int, ns.length ≤ 63 → ∃ outs, runBody (gamOf (fun x => cG.lookup x) (fun x => cB.contains x) (fnOf 13) r_law) (defBody r_law.st) [.imm (.lst (ns.map D.int))] = some (.imm (.bl true), outs) := by
  intro ns hn
  have e := law_eq apart ds_ok (k := 13) e_law
  exact ⟨[none], (congrFun e _).trans (cl_law (k := 6) ns hn).is⟩
end La
set_option maxHeartbeats 0
open PySem PySem.W PyProof.Rows in
set_option maxRecDepth 100000 in
set_option maxHeartbeats 0 in
theorem PySem.Challenge.cw_middlegauges_k09_forced_bounds_holds : PySem.Challenge.rw_middlegauges_k09_forced_bounds.Holds := by
  w_on; o_law; k_head; (case hw => w_witness2)
  k_fill
  refine Mx.walk (l := PySem.Challenge.rw_middlegauges_k09_forced_bounds) (k := 15) (x := "script") rfl rfl ⟨rfl, by decide, by decide⟩ (fun w h Y => PySem.W.kIn_of Y) La.main ?F
  case F =>
    intro w mg fa h KX G hmg
    refine La.law_fn (h0 := h) ?t hmg
    refine' La.tab_ok KX G ?mxa0 ?mxl0 ?mxc0 ?mxk0 ?mxa1 ?mxl1 ?mxc1 ?mxk1 ?mxa2 ?mxl2 ?mxc2 ?mxk2 ?mxa3 ?mxl3 ?mxc3 ?mxk3 ?mxa4 ?mxl4 ?mxc4 ?mxk4 ?mxa5 ?mxl5 ?mxc5 ?mxk5 ?mxa6 ?mxl6 ?mxc6 ?mxk6 ?mxa7 ?mxl7 ?mxc7 ?mxk7 ?mxa8 ?mxl8 ?mxc8 ?mxk8 ?mxa9 ?mxl9 ?mxc9 ?mxk9 ?mxa10 ?mxl10 ?mxc10 ?mxk10 ?mxa11 ?mxl11 ?mxc11 ?mxk11 ?mxa12 ?mxl12 ?mxc12 ?mxk12 ?mxa13 ?mxl13 ?mxc13 ?mxk13 ?mxa14 ?mxl14 ?mxc14 ?mxk14 ?mxa15 ?mxl15 ?mxc15 ?mxk15 ?mxa16 ?mxl16 ?mxc16 ?mxk16 ?mxa17 ?mxl17 ?mxc17 ?mxk17 ?mxa18 ?mxl18 ?mxc18 ?mxk18 ?mxa19 ?mxl19 ?mxc19 ?mxk19 ?mxa20 ?mxl20 ?mxc20 ?mxk20 ?mxa21 ?mxl21 ?mxc21 ?mxk21 ?mxa22 ?mxl22 ?mxc22 ?mxk22 ?mxa23 ?mxl23 ?mxc23 ?mxk23 ?mxa24 ?mxl24 ?mxc24 ?mxk24 ?mxa25 ?mxl25 ?mxc25 ?mxk25 ?mxa26 ?mxl26 ?mxc26 ?mxk26 ?mxa27 ?mxl27 ?mxc27 ?mxk27 ?mxa28 ?mxl28 ?mxc28 ?mxk28 ?mxa29 ?mxl29 ?mxc29 ?mxk29 ?mxa30 ?mxl30 ?mxc30 ?mxk30 ?mxz0 ?mxz1 ?mxz2 ?mxz3 ?mxz4 ?mxz5 ?mxz6 ?mxz7 ?mxz8 ?mxz9 ?mxg0 ?mxg1 ?mxh1
    (case mxa0 => k_is)
    (case mxl0 => k_is)
    (case mxc0 => k_is)
    (case mxk0 => k_is)
    (case mxa1 => k_is)
    (case mxl1 => k_is)
    (case mxc1 => k_is)
    (case mxk1 => k_is)
    (case mxa2 => k_is)
    (case mxl2 => k_is)
    (case mxc2 => k_is)
    (case mxk2 => k_is)
    (case mxa3 => k_is)
    (case mxl3 => k_is)
    (case mxc3 => k_is)
    (case mxk3 => k_is)
    (case mxa4 => k_is)
    (case mxl4 => k_is)
    (case mxc4 => k_is)
    (case mxk4 => k_is)
    (case mxa5 => k_is)
    (case mxl5 => k_is)
    (case mxc5 => k_is)
    (case mxk5 => k_is)
    (case mxa6 => k_is)
    (case mxl6 => k_is)
    (case mxc6 => k_is)
    (case mxk6 => k_is)
    (case mxa7 => k_is)
    (case mxl7 => k_is)
    (case mxc7 => k_is)
    (case mxk7 => k_is)
    (case mxa8 => k_is)
    (case mxl8 => k_is)
    (case mxc8 => k_is)
    (case mxk8 => k_is)
    (case mxa9 => k_is)
    (case mxl9 => k_is)
    (case mxc9 => k_is)
    (case mxk9 => k_is)
    (case mxa10 => k_is)
    (case mxl10 => k_is)
    (case mxc10 => k_is)
    (case mxk10 => k_is)
    (case mxa11 => k_is)
    (case mxl11 => k_is)
    (case mxc11 => k_is)
    (case mxk11 => k_is)
    (case mxa12 => k_is)
    (case mxl12 => k_is)
    (case mxc12 => k_is)
    (case mxk12 => k_is)
    (case mxa13 => k_is)
    (case mxl13 => k_is)
    (case mxc13 => k_is)
    (case mxk13 => k_is)
    (case mxa14 => k_is)
    (case mxl14 => k_is)
    (case mxc14 => k_is)
    (case mxk14 => k_is)
    (case mxa15 => k_is)
    (case mxl15 => k_is)
    (case mxc15 => k_is)
    (case mxk15 => k_is)
    (case mxa16 => k_is)
    (case mxl16 => k_is)
    (case mxc16 => k_is)
    (case mxk16 => k_is)
    (case mxa17 => k_is)
    (case mxl17 => k_is)
    (case mxc17 => k_is)
    (case mxk17 => k_is)
    (case mxa18 => k_is)
    (case mxl18 => k_is)
    (case mxc18 => k_is)
    (case mxk18 => k_is)
    (case mxa19 => k_is)
    (case mxl19 => k_is)
    (case mxc19 => k_is)
    (case mxk19 => k_is)
    (case mxa20 => k_is)
    (case mxl20 => k_is)
    (case mxc20 => k_is)
    (case mxk20 => k_is)
    (case mxa21 => k_is)
    (case mxl21 => k_is)
    (case mxc21 => k_is)
    (case mxk21 => k_is)
    (case mxa22 => k_is)
    (case mxl22 => k_is)
    (case mxc22 => k_is)
    (case mxk22 => k_is)
    (case mxa23 => k_is)
    (case mxl23 => k_is)
    (case mxc23 => k_is)
    (case mxk23 => k_is)
    (case mxa24 => k_is)
    (case mxl24 => k_is)
    (case mxc24 => k_is)
    (case mxk24 => k_is)
    (case mxa25 => k_is)
    (case mxl25 => k_is)
    (case mxc25 => k_is)
    (case mxk25 => k_is)
    (case mxa26 => k_is)
    (case mxl26 => k_is)
    (case mxc26 => k_is)
    (case mxk26 => k_is)
    (case mxa27 => k_is)
    (case mxl27 => k_is)
    (case mxc27 => k_is)
    (case mxk27 => k_is)
    (case mxa28 => k_is)
    (case mxl28 => k_is)
    (case mxc28 => k_is)
    (case mxk28 => k_is)
    (case mxa29 => k_is)
    (case mxl29 => k_is)
    (case mxc29 => k_is)
    (case mxk29 => k_is)
    (case mxa30 => k_is)
    (case mxl30 => k_is)
    (case mxc30 => k_is)
    (case mxk30 => k_is)
    (case mxz0 => k_is)
    (case mxz1 => k_is)
    (case mxz2 => k_is)
    (case mxz3 => k_is)
    (case mxz4 => k_is)
    (case mxz5 => k_is)
    (case mxz6 => k_is)
    (case mxz7 => k_is)
    (case mxz8 => k_is)
    (case mxz9 => k_is)
    (case mxg0 => k_is)
    (case mxg1 => k_is)
    (case mxh1 => k_is)
