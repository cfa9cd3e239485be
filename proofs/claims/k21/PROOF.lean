import PyProof.Rows.All
import Wide.All
import OpenK.AllK
import Wide.FinOn
import HandS.ForMost
import HandS.Walk
import HandS.Set
import HandS.Strs
import PyProof.Rows.SortShellAny
import HandS.More
import HandS.Flow
import HandS.Style
import HandS.TupAny
import HandS.TupLe
import HandS.Wide
import HandS.Deep
import HandS.DeepEq
import HandS.IsInst
import HandS.Conv
import HandS.Zip
import HandS.OwnEq
import HandS.Codes
import KE.SortCalls
import KE.DataMinMax
import PyProof.TupleOfStr
import PyProof.Rows.StrInSeq3
import HandS.DictTup
import KE.KDictZip
import HandS.Rev
import HandS.DictComp
import KE.GoesEnum
import HandS.Iter
import HandS.TupSets
import HandS.SetBool
import PySem.Challenge.RW_fewreleases_k21_edges_between_services
set_option Elab.async false
set_option linter.all false
set_option maxRecDepth 100000
set_option maxHeartbeats 4000000
namespace Vf
open PySem PySem.Spec PyProof.Rows L2

/-! ### sets of texts -/
def txtOf (e : Int × Value) : Str := match e.2 with | .str k _ => k | _ => Str.empty
def TxtE (w : World) (e : Int × Value) : Prop := ∃ k tk, e.2 = Value.str k tk ∧ e.1 = hashStr w k
/-- the set of texts at a: S its members, n how many; its table can be walked -/
def SetX (w : World) (h : Heap) (a : Addr) (S : Str → Bool) (n : Nat) : Prop := ∃ ob es ep t, h.get? a = some ob ∧ ob.ExactSet ∧ ob.data = .set es ep t ∧ (∀ e ∈ es.toList, TxtE w e) ∧
  (es.toList.map txtOf).Nodup ∧ (∀ k, S k = true ↔ k ∈ es.toList.map txtOf) ∧ es.size < scanBound ∧ t.fits es.size = true ∧ es.size = n ∧ Ris t.place.toList ∧ (w.params.followText "set-order" = true ∨ t.led = true)
theorem SetX.keep {w : World} {h h' : Heap} {a : Addr} {S : Str → Bool} {n : Nat} (R : SetX w h a S n) (k : ∀ o, h.get? a = some o → h'.get? a = some o) : SetX w h' a S n :=
  let ⟨ob, es, ep, t, ho, r⟩ := R; ⟨ob, es, ep, t, k ob ho, r⟩
/-- a set of the texts ks -/
def SetXO (w : World) (a : Addr) (ks : List Str) : HO := .ext fun h => SetX w h a (fun j => decide (j ∈ ks)) ks.length
/-- data as trees; ref: a changeable thing of the small heap -/
inductive D where
  | non | bl (b : Bool) | int (i : Int) | str (x : Str) | tup (xs : List D) | lst (xs : List D) | rol (xs : List D) | ref (n : Nat) | sx (w : World) (ks : List Str)
  /-- a dict that does not change; one of the written part -/
  | dic (ks : List Key) (xs : List D) | kd (w : World) (ks : List Str) (xs : List D)

/-- a changeable thing -/
inductive DO where
  | lst (xs : List D)
  /-- an instance: its class, its attributes -/
  | obj (c : Str) (ns : List Str) (ds : List D)
  | dk (ks : List Key) (ds : List D)
  | dt (ks : List (List Key)) (ds : List D)
  /-- such a dict while it is walked: what stands there may not change -/
  | dtl (o : Obj) (vs : List V) (ks : List (List Key)) (ds : List D)
  | dkl (o : Obj) (vs : List V) (ks : List Key) (ds : List D)
abbrev DH := List DO

/-- where the changeable things stand, and what is put aside -/
structure Lay where
  m : List Addr
  o : List Addr
def Lay.pr (L : Lay) (a : Addr) : Prop := a ∈ L.m ∨ a ∈ L.o
def TupAt (K : PySem.W.Frag) (m : Lay) (H : Hp) (a : Addr) (vs : List V) : Prop := (¬ m.pr a ∧ Rd H a (.tup vs)) ∨ ∀ H', SqT K H' a vs
def LstAt (K : PySem.W.Frag) (m : Lay) (H : Hp) (a : Addr) (vs : List V) : Prop := ¬ m.pr a ∧ H a = some (.lst vs)
def RolAt (K : PySem.W.Frag) (m : Lay) (H : Hp) (a : Addr) (vs : List V) : Prop := (¬ m.pr a ∧ Rd H a (.lst vs)) ∨ ∀ H', SqL K H' a vs

mutual
def RelD (K : PySem.W.Frag) (m : Lay) (H : Hp) : D → V → Prop
  | .non, v => v = .non
  | .bl b, v => v = .bl b
  | .int i, v => v = .int i
  | .str x, v => v = .str x
  | .tup ds, v => ∃ a vs, v = .ref a ∧ TupAt K m H a vs ∧ RelDs K m H ds vs
  | .lst ds, v => ∃ a vs, v = .ref a ∧ LstAt K m H a vs ∧ RelDs K m H ds vs
  | .rol ds, v => ∃ a vs, v = .ref a ∧ RolAt K m H a vs ∧ RelDs K m H ds vs
  | .ref n, v => ∃ a, v = .ref a ∧ m.m[n]? = some a
  | .sx w ks, v => ∃ a, v = .ref a ∧ ¬ m.pr a ∧ H a = some (SetXO w a ks)
  | .dic ks ds, v => ∃ a vs, v = .ref a ∧ ¬ m.pr a ∧ H a = some (.dK (ks.zip vs)) ∧ ks.length = vs.length ∧ RelDs K m H ds vs
  | .kd w ks ds, v => ∃ a es n vs, v = .ref a ∧ KDict K w a es n ∧ (∀ (i : Nat) (z : Str) (y : V), ks[i]? = some z → vs[i]? = some y → ∃ u, PySem.W.nsIn K a z = some (some u) ∧ RelV y u) ∧ RelDs K m H ds vs
def RelDs (K : PySem.W.Frag) (m : Lay) (H : Hp) : List D → List V → Prop
  | [], vs => vs = []
  | d :: ds, vs => ∃ v r, vs = v :: r ∧ RelD K m H d v ∧ RelDs K m H ds r
end

structure Mv (m : Lay) (H : Hp) (m' : Lay) (H' : Hp) : Prop where
  pre : ∃ t, m'.m = m.m ++ t
  new : ∀ a, m'.pr a → ¬ m.pr a → H a = none
  keep : ∀ a o, ¬ m.pr a → H a = some o → H' a = some o
structure Step (m : Lay) (H : Hp) (m' : Lay) (H' : Hp) : Prop where
  mv : Mv m H m' H'
  same : m'.o = m.o
  rsv : ∀ a ∈ m.o, H' a = H a
theorem Mv.refl (m : Lay) (H : Hp) : Mv m H m H := ⟨⟨[], by simp⟩, fun a h n => absurd h n, fun a o _ h => h⟩
theorem Step.refl (m : Lay) (H : Hp) : Step m H m H := ⟨Mv.refl m H, rfl, fun _ _ => rfl⟩
theorem Mv.out {m m' : Lay} {H H' : Hp} (s : Mv m H m' H') {a : Addr} {o : HO} (n : ¬ m.pr a) (h : H a = some o) : ¬ m'.pr a := fun z => by
  have := s.new a z n
  rw [h] at this; cases this
theorem Mv.at {m m' : Lay} {H H' : Hp} (s : Mv m H m' H') {n : Nat} {a : Addr} (h : m.m[n]? = some a) : m'.m[n]? = some a := by
  obtain ⟨t, e⟩ := s.pre
  rw [e, List.getElem?_append_left (List.getElem?_eq_some_iff.mp h).1]
  exact h
theorem Step.at {m m' : Lay} {H H' : Hp} (s : Step m H m' H') {n : Nat} {a : Addr} (h : m.m[n]? = some a) : m'.m[n]? = some a := s.mv.at h
theorem Step.out {m m' : Lay} {H H' : Hp} (s : Step m H m' H') {a : Addr} {o : HO} (n : ¬ m.pr a) (h : H a = some o) : ¬ m'.pr a := s.mv.out n h
theorem Mv.trans {m m' m'' : Lay} {H H' H'' : Hp} (s : Mv m H m' H') (t : Mv m' H' m'' H'') : Mv m H m'' H'' := by
  refine ⟨?_, fun a h n => ?_, fun a o n h => t.keep a o (s.out n h) (s.keep a o n h)⟩
  · obtain ⟨x, e⟩ := s.pre
    obtain ⟨y, e'⟩ := t.pre
    exact ⟨x ++ y, by rw [e', e, List.append_assoc]⟩
  · by_cases h1 : m'.pr a
    · exact s.new a h1 n
    · have h2 := t.new a h h1
      cases e : H a with
      | none => rfl
      | some o =>
        have := s.keep a o n e
        rw [h2] at this; cases this
theorem Step.trans {m m' m'' : Lay} {H H' H'' : Hp} (s : Step m H m' H') (t : Step m' H' m'' H'') : Step m H m'' H'' :=
  ⟨s.mv.trans t.mv, t.same.trans s.same, fun a h => (t.rsv a (by rw [s.same]; exact h)).trans (s.rsv a h)⟩
theorem Rd.mv {m m' : Lay} {H H' : Hp} (s : Mv m H m' H') {a : Addr} {u : HO} (n : ¬ m.pr a) (h : Rd H a u) : ¬ m'.pr a ∧ Rd H' a u := by
  rcases h with h | ⟨o, h⟩
  · exact ⟨s.out n h, .inl (s.keep a _ n h)⟩
  · exact ⟨s.out n h, .inr ⟨o, s.keep a _ n h⟩⟩
theorem TupAt.mv {K : PySem.W.Frag} {m m' : Lay} {H H' : Hp} (s : Mv m H m' H') {a : Addr} {vs : List V} : TupAt K m H a vs → TupAt K m' H' a vs
  | .inl ⟨n, h⟩ => .inl (Rd.mv s n h)
  | .inr h => .inr h
theorem LstAt.mv {K : PySem.W.Frag} {m m' : Lay} {H H' : Hp} (s : Mv m H m' H') {a : Addr} {vs : List V} (h : LstAt K m H a vs) : LstAt K m' H' a vs := ⟨s.out h.1 h.2, s.keep a _ h.1 h.2⟩
theorem RolAt.mv {K : PySem.W.Frag} {m m' : Lay} {H H' : Hp} (s : Mv m H m' H') {a : Addr} {vs : List V} : RolAt K m H a vs → RolAt K m' H' a vs
  | .inl ⟨n, h⟩ => .inl (Rd.mv s n h)
  | .inr h => .inr h
theorem RolAt.sq {K : PySem.W.Frag} {m : Lay} {H : Hp} {a : Addr} {vs : List V} : RolAt K m H a vs → SqL K H a vs
  | .inl ⟨_, h⟩ => .inl h
  | .inr h => h H
theorem TupAt.sq {K : PySem.W.Frag} {m : Lay} {H : Hp} {a : Addr} {vs : List V} : TupAt K m H a vs → SqT K H a vs
  | .inl ⟨_, h⟩ => .inl h
  | .inr h => h H
theorem LstAt.sq {K : PySem.W.Frag} {m : Lay} {H : Hp} {a : Addr} {vs : List V} (h : LstAt K m H a vs) : SqL K H a vs := SqL.of h.2

mutual
theorem RelD.mv {K : PySem.W.Frag} {m m' : Lay} {H H' : Hp} (s : Mv m H m' H') : ∀ {d : D} {v : V}, RelD K m H d v → RelD K m' H' d v
  | .non, v, h => by unfold RelD at h ⊢; exact h
  | .bl b, v, h => by unfold RelD at h ⊢; exact h
  | .int b, v, h => by unfold RelD at h ⊢; exact h
  | .str b, v, h => by unfold RelD at h ⊢; exact h
  | .tup ds, v, h => by
    unfold RelD at h ⊢
    obtain ⟨a, vs, e, t, r⟩ := h
    exact ⟨a, vs, e, t.mv s, RelDs.mv s r⟩
  | .lst ds, v, h => by
    unfold RelD at h ⊢
    obtain ⟨a, vs, e, t, r⟩ := h
    exact ⟨a, vs, e, t.mv s, RelDs.mv s r⟩
  | .rol ds, v, h => by
    unfold RelD at h ⊢
    obtain ⟨a, vs, e, t, r⟩ := h
    exact ⟨a, vs, e, t.mv s, RelDs.mv s r⟩
  | .ref n, v, h => by
    unfold RelD at h ⊢
    obtain ⟨a, e, t⟩ := h
    exact ⟨a, e, s.at t⟩
  | .sx w ks, v, h => by
    unfold RelD at h ⊢
    obtain ⟨a, e, n, t⟩ := h
    exact ⟨a, e, s.out n t, s.keep a _ n t⟩
  | .dic ks ds, v, h => by
    unfold RelD at h ⊢
    obtain ⟨a, vs, e, n, t, l, r⟩ := h
    exact ⟨a, vs, e, s.out n t, s.keep a _ n t, l, RelDs.mv s r⟩
  | .kd w ks ds, v, h => by
    unfold RelD at h ⊢
    obtain ⟨a, es, n, vs, e, d, f, r⟩ := h
    exact ⟨a, es, n, vs, e, d, f, RelDs.mv s r⟩
theorem RelDs.mv {K : PySem.W.Frag} {m m' : Lay} {H H' : Hp} (s : Mv m H m' H') : ∀ {ds : List D} {vs : List V}, RelDs K m H ds vs → RelDs K m' H' ds vs
  | [], vs, h => by unfold RelDs at h ⊢; exact h
  | d :: ds, vs, h => by
    unfold RelDs at h ⊢
    obtain ⟨v, r, e, h1, h2⟩ := h
    exact ⟨v, r, e, RelD.mv s h1, RelDs.mv s h2⟩
end

theorem TupAt.step {K : PySem.W.Frag} {m m' : Lay} {H H' : Hp} (s : Step m H m' H') {a : Addr} {vs : List V} (t : TupAt K m H a vs) : TupAt K m' H' a vs := t.mv s.mv
theorem LstAt.step {K : PySem.W.Frag} {m m' : Lay} {H H' : Hp} (s : Step m H m' H') {a : Addr} {vs : List V} (t : LstAt K m H a vs) : LstAt K m' H' a vs := t.mv s.mv
theorem RelD.step {K : PySem.W.Frag} {m m' : Lay} {H H' : Hp} (s : Step m H m' H') {d : D} {v : V} (r : RelD K m H d v) : RelD K m' H' d v := r.mv s.mv
theorem RelDs.step {K : PySem.W.Frag} {m m' : Lay} {H H' : Hp} (s : Step m H m' H') {d : List D} {v : List V} (r : RelDs K m H d v) : RelDs K m' H' d v := r.mv s.mv
def RelO (K : PySem.W.Frag) (m : Lay) (H : Hp) (a : Addr) : DO → Prop
  | .lst ds => ∃ vs, H a = some (.lst vs) ∧ RelDs K m H ds vs
  | .obj c ns ds => ∃ C dx vs, PySem.W.nsIn K mainGlobals c = some (some (.ref C)) ∧ H a = some (.ins C dx (ns.zip vs)) ∧ ns.length = vs.length ∧ RelDs K m H ds vs
  | .dk ks ds => ∃ vs, H a = some (.dK (ks.zip vs)) ∧ ks.length = vs.length ∧ RelDs K m H ds vs
  | .dt ks ds => ∃ vs, H a = some (.dT (ks.zip vs)) ∧ ks.length = vs.length ∧ RelDs K m H ds vs
  | .dtl o vs ks ds => H a = some (.frz o (.dT (ks.zip vs))) ∧ ks.length = vs.length ∧ RelDs K m H ds vs
  | .dkl o vs ks ds => H a = some (.frz o (.dK (ks.zip vs))) ∧ ks.length = vs.length ∧ RelDs K m H ds vs
theorem RelO.keep {K : PySem.W.Frag} {m m' : Lay} {H H' : Hp} {a : Addr} {o : DO} (q : RelO K m H a o) (s : Mv m H m' H') (e : H' a = H a) : RelO K m' H' a o := by
  cases o with
  | lst ds =>
    obtain ⟨vs, e1, r⟩ := q
    exact ⟨vs, e.trans e1, r.mv s⟩
  | obj c ns ds =>
    obtain ⟨C, dx, vs, h1, e1, l, r⟩ := q
    exact ⟨C, dx, vs, h1, e.trans e1, l, r.mv s⟩
  | dk ks ds =>
    obtain ⟨vs, e1, l, r⟩ := q
    exact ⟨vs, e.trans e1, l, r.mv s⟩
  | dt ks ds =>
    obtain ⟨vs, e1, l, r⟩ := q
    exact ⟨vs, e.trans e1, l, r.mv s⟩
  | dtl o vs ks ds =>
    obtain ⟨e1, l, r⟩ := q
    exact ⟨e.trans e1, l, r.mv s⟩
  | dkl o vs ks ds =>
    obtain ⟨e1, l, r⟩ := q
    exact ⟨e.trans e1, l, r.mv s⟩
theorem RelO.some {K : PySem.W.Frag} {m : Lay} {H : Hp} {a : Addr} {o : DO} (q : RelO K m H a o) : ∃ u, H a = .some u := by
  cases o with
  | lst ds =>
    obtain ⟨vs, e1, r⟩ := q
    exact ⟨_, e1⟩
  | obj c ns ds =>
    obtain ⟨C, dx, vs, h1, e1, l, r⟩ := q
    exact ⟨_, e1⟩
  | dk ks ds =>
    obtain ⟨vs, e1, l, r⟩ := q
    exact ⟨_, e1⟩
  | dt ks ds =>
    obtain ⟨vs, e1, l, r⟩ := q
    exact ⟨_, e1⟩
  | dtl o vs ks ds =>
    obtain ⟨e1, l, r⟩ := q
    exact ⟨_, e1⟩
  | dkl o vs ks ds =>
    obtain ⟨e1, l, r⟩ := q
    exact ⟨_, e1⟩
structure RelH (K : PySem.W.Frag) (m : Lay) (H : Hp) (h : DH) : Prop where
  len : m.m.length = h.length
  nd : m.m.Nodup
  dj : ∀ a ∈ m.m, a ∉ m.o
  tr : ∀ a ∈ m.o, ∃ o, H a = some o ∧ ∀ vs, o ≠ HO.tup vs
  ob : ∀ (n : Nat) (o : DO), h[n]? = some o → ∃ a, m.m[n]? = some a ∧ RelO K m H a o

abbrev Rho := List (Option D)
structure RelS (K : PySem.W.Frag) (m : Lay) (H : Hp) (σ : L2.St) (ρ : Rho) : Prop where
  len : σ.length = ρ.length
  sl : ∀ (i : Nat) (d : D), ρ[i]? = some (some d) → ∃ v, σ[i]? = some (some v) ∧ RelD K m H d v
theorem RelS.mv {K : PySem.W.Frag} {m m' : Lay} {H H' : Hp} (s : Mv m H m' H') {σ : L2.St} {ρ : Rho} (r : RelS K m H σ ρ) : RelS K m' H' σ ρ :=
  ⟨r.len, fun i d h => let ⟨v, e, q⟩ := r.sl i d h; ⟨v, e, q.mv s⟩⟩
theorem RelS.step {K : PySem.W.Frag} {m m' : Lay} {H H' : Hp} (s : Step m H m' H') {σ : L2.St} {ρ : Rho} (r : RelS K m H σ ρ) : RelS K m' H' σ ρ := r.mv s.mv

abbrev K1 := D → DH → Prop
abbrev KL := List D → DH → Prop
abbrev KB := Bool → DH → Prop
abbrev W1 := Rho → DH → K1 → Prop
abbrev WL := Rho → DH → KL → Prop
abbrev WB := Rho → DH → KB → Prop

/-- the reading of an expression over data -/
def tD (K : PySem.W.Frag) (w : W1) : TE := fun σ H Q => ∃ (m : Lay) (ρ : Rho) (h : DH) (k : K1), RelS K m H σ ρ ∧ RelH K m H h ∧ w ρ h k ∧
  ∀ d h' v m' H', Step m H m' H' → RelH K m' H' h' → RelD K m' H' d v → k d h' → Q v H'
def tDA (K : PySem.W.Frag) (w : WL) : TA := fun σ H Q => ∃ (m : Lay) (ρ : Rho) (h : DH) (k : KL), RelS K m H σ ρ ∧ RelH K m H h ∧ w ρ h k ∧
  ∀ ds h' vs m' H', Step m H m' H' → RelH K m' H' h' → RelDs K m' H' ds vs → k ds h' → Q vs H'
def tDB (K : PySem.W.Frag) (w : WB) : TT := fun σ H Q => ∃ (m : Lay) (ρ : Rho) (h : DH) (k : KB), RelS K m H σ ρ ∧ RelH K m H h ∧ w ρ h k ∧
  ∀ b h' m' H', Step m H m' H' → RelH K m' H' h' → k b h' → Q b H'

def DE (X : Cx) (e : Expr) (w : W1) : Prop := PE X e (tD X.K w)
def DA (X : Cx) (es : List Expr) (w : WL) : Prop := PA X es (tDA X.K w)
def DT (X : Cx) (e : Expr) (w : WB) : Prop := PT X e (tDB X.K w)

section
variable {X : Cx}
theorem PE.imp {e : Expr} {t t' : TE} (h : PE X e t) (i : ∀ σ H Q, t' σ H Q → t σ H Q) : PE X e t' := ⟨fun pins s σ H Q I q => h.run pins s σ H Q I (i _ _ _ q)⟩
theorem PT.imp {e : Expr} {t t' : TT} (h : PT X e t) (i : ∀ σ H Q, t' σ H Q → t σ H Q) : PT X e t' := ⟨fun pins s σ H Q I q => h.run pins s σ H Q I (i _ _ _ q)⟩
theorem PA.imp {e : List Expr} {t t' : TA} (h : PA X e t) (i : ∀ σ H Q, t' σ H Q → t σ H Q) : PA X e t' := ⟨fun po pins s σ H Q I q => h.run po pins s σ H Q I (i _ _ _ q)⟩
theorem PS.imp {e : Stmt} {t t' : TS} (h : PS X e t) (i : ∀ D σ H, t' D σ H → t D σ H) : PS X e t' := ⟨fun pins s σ H Q I q => h.run pins s σ H Q I (i _ _ _ q)⟩
theorem PSs.imp {e : List Stmt} {t t' : TS} (h : PSs X e t) (i : ∀ D σ H, t' D σ H → t D σ H) : PSs X e t' := ⟨fun pins s σ H Q I q => h.run pins s σ H Q I (i _ _ _ q)⟩

/-- a slot -/
def wVar (i : Nat) : W1 := fun ρ h k => ∃ d, ρ[i]? = some (some d) ∧ k d h
theorem de_var {e : Expr} {i : Nat} (h : PE X e (tVar i)) : DE X e (wVar i) := PE.imp h fun σ H Q ⟨m, ρ, h, k, rs, rh, ⟨d, e, q⟩, c⟩ => by
  obtain ⟨v, ev, r⟩ := rs.sl i d e
  exact ⟨v, ev, c d h v m H (Step.refl m H) rh r q⟩
def wC (d : D) : W1 := fun _ h k => k d h
theorem de_int {i j pos} : DE X (.Constant (.int i) j pos) (wC (.int i)) := PE.imp pe_int fun σ H Q ⟨m, ρ, h, k, rs, rh, q, c⟩ => c (.int i) h (.int i) m H (Step.refl m H) rh (by unfold RelD; rfl) q
theorem de_bl {b j pos} : DE X (.Constant (.bool b) j pos) (wC (.bl b)) := PE.imp pe_bl fun σ H Q ⟨m, ρ, h, k, rs, rh, q, c⟩ => c (.bl b) h (.bl b) m H (Step.refl m H) rh (by unfold RelD; rfl) q
theorem de_non {j pos} : DE X (.Constant .none j pos) (wC .non) := PE.imp pe_non fun σ H Q ⟨m, ρ, h, k, rs, rh, q, c⟩ => c .non h .non m H (Step.refl m H) rh (by unfold RelD; rfl) q
theorem de_str {x j pos} : DE X (.Constant (.str x) j pos) (wC (.str x)) := PE.imp pe_str fun σ H Q ⟨m, ρ, h, k, rs, rh, q, c⟩ => c (.str x) h (.str x) m H (Step.refl m H) rh (by unfold RelD; rfl) q

/-- arguments -/
def wNil : WL := fun _ h k => k [] h
def wCons (a : W1) (r : WL) : WL := fun ρ h k => a ρ h fun d h1 => r ρ h1 fun ds h2 => k (d :: ds) h2
theorem da_nil : DA X [] wNil := PA.imp pa_nil fun σ H Q ⟨m, ρ, h, k, rs, rh, q, c⟩ => c [] h [] m H (Step.refl m H) rh (by unfold RelDs; rfl) q
theorem da_cons {e : Expr} {es : List Expr} {a : W1} {r : WL} (he : DE X e a) (hr : DA X es r) (hs : starEach (e :: es) X.env = (false, eval e X.env) :: starEach es X.env) : DA X (e :: es) (wCons a r) :=
  PA.imp (pa_cons he hr hs) fun σ H Q ⟨m, ρ, h, k, rs, rh, q, c⟩ =>
    ⟨m, ρ, h, _, rs, rh, q, fun d h1 v m1 H1 s1 rh1 rd q1 => ⟨m1, ρ, h1, _, rs.step s1, rh1, q1, fun ds h2 vs m2 H2 s2 rh2 rds q2 =>
      c (d :: ds) h2 (v :: vs) m2 H2 (s1.trans s2) rh2 (by unfold RelDs; exact ⟨v, vs, rfl, rd.step s2, rds⟩) q2⟩⟩

theorem RelDs.length {K : PySem.W.Frag} {m : Lay} {H : Hp} : ∀ {ds : List D} {vs : List V}, RelDs K m H ds vs → ds.length = vs.length
  | [], vs, h => by unfold RelDs at h; subst h; rfl
  | d :: ds, vs, h => by
    unfold RelDs at h
    obtain ⟨v, r, rfl, _, h2⟩ := h
    simp [RelDs.length h2]

theorem RelH.notin {K : PySem.W.Frag} {m : Lay} {H : Hp} {h : DH} (r : RelH K m H h) {p : Addr} (n : H p = none) : ¬ m.pr p := fun z => by
  rcases z with z | z
  · obtain ⟨i, hi⟩ := List.mem_iff_getElem?.mp z
    have hl : i < h.length := by rw [← r.len]; exact (List.getElem?_eq_some_iff.mp hi).1
    obtain ⟨a, ea, q⟩ := r.ob i (h[i]) (by simp [hl])
    rw [hi] at ea; cases ea
    obtain ⟨u, e1⟩ := q.some
    rw [n] at e1; cases e1
  · obtain ⟨o, e, _⟩ := r.tr p z
    rw [n] at e; cases e
/-- a new thing is laid outside -/
theorem Step.new {K : PySem.W.Frag} {m : Lay} {H : Hp} {h : DH} (r : RelH K m H h) {p : Addr} (o : HO) (n : H p = none) : Step m H m (upd H p o) :=
  ⟨⟨⟨[], by simp⟩, fun a h n => absurd h n, fun a u _ e => by rw [upd_ne (ne_of_none e n)]; exact e⟩, rfl, fun a ha => by
    obtain ⟨u, e, _⟩ := r.tr a ha
    rw [upd_ne (ne_of_none e n)]⟩
theorem RelH.new {K : PySem.W.Frag} {m : Lay} {H : Hp} {h : DH} (r : RelH K m H h) {p : Addr} (o : HO) (n : H p = none) : RelH K m (upd H p o) h := by
  refine ⟨r.len, r.nd, r.dj, fun a ha => ?_, fun i u e => ?_⟩
  · obtain ⟨u, e, nt⟩ := r.tr a ha
    exact ⟨u, by rw [upd_ne (ne_of_none e n)]; exact e, nt⟩
  · obtain ⟨a, ea, q⟩ := r.ob i u e
    obtain ⟨z, e1⟩ := q.some
    exact ⟨a, ea, q.keep (Step.new r o n).mv (upd_ne (ne_of_none e1 n))⟩

def wTup (w : WL) : W1 := fun ρ h k => w ρ h fun ds h1 => ds.length ≤ sizeLine ∧ k (.tup ds) h1
theorem de_tup {es : List Expr} {w : WL} {x1 pos} (h : DA X es w) : DE X (.Tuple es x1 pos) (wTup w) := PE.imp (pe_tup h) fun σ H Q ⟨m, ρ, h, k, rs, rh, q, c⟩ =>
  ⟨m, ρ, h, _, rs, rh, q, fun ds h1 vs m1 H1 s1 rh1 rds ⟨z, q1⟩ => ⟨by rw [← rds.length]; exact z, fun p hp => by
    have sp : Step m1 H1 m1 (upd H1 p (.tup vs)) := Step.new rh1 _ hp
    refine c (.tup ds) h1 (.ref p) m1 _ (s1.trans sp) (rh1.new _ hp) ?_ q1
    unfold RelD
    exact ⟨p, vs, rfl, .inl ⟨rh1.notin hp, .inl upd_same⟩, rds.step sp⟩⟩⟩
def wLst (w : WL) : W1 := fun ρ h k => w ρ h fun ds h1 => ds.length ≤ sizeLine ∧ k (.lst ds) h1
theorem de_lst {es : List Expr} {w : WL} {pos} (h : DA X es w) : DE X (.List es pos) (wLst w) := PE.imp (pe_lst h) fun σ H Q ⟨m, ρ, h, k, rs, rh, q, c⟩ =>
  ⟨m, ρ, h, _, rs, rh, q, fun ds h1 vs m1 H1 s1 rh1 rds ⟨z, q1⟩ => ⟨by rw [← rds.length]; exact z, fun p hp => by
    have sp : Step m1 H1 m1 (upd H1 p (.lst vs)) := Step.new rh1 _ hp
    refine c (.lst ds) h1 (.ref p) m1 _ (s1.trans sp) (rh1.new _ hp) ?_ q1
    unfold RelD
    exact ⟨p, vs, rfl, ⟨rh1.notin hp, upd_same⟩, rds.step sp⟩⟩⟩
end
end Vf

namespace Vf
open PySem PySem.Spec PyProof.Rows L2

/-- what follows, over data -/
def Fol (K : PySem.W.Frag) (m : Lay) (H : Hp) (k : K1) (Q : VK) : Prop :=
  ∀ d h' v m' H', Step m H m' H' → RelH K m' H' h' → RelD K m' H' d v → k d h' → Q v H'
theorem Fol.now {K : PySem.W.Frag} {m : Lay} {H : Hp} {k : K1} {Q : VK} (f : Fol K m H k Q) {h : DH} (rh : RelH K m H h) {d : D} {v : V} (r : RelD K m H d v) (q : k d h) : Q v H := f d h v m H (Step.refl m H) rh r q
theorem Fol.new {K : PySem.W.Frag} {m : Lay} {H : Hp} {k : K1} {Q : VK} (f : Fol K m H k Q) {h : DH} (rh : RelH K m H h) {d : D} {p : Addr} {o : HO} (hp : H p = none) (r : RelD K m (upd H p o) d (.ref p)) (q : k d h) : Q (.ref p) (upd H p o) :=
  f d h (.ref p) m _ (Step.new rh o hp) (rh.new o hp) r q

abbrev WO2 := D → D → DH → K1 → Prop
abbrev WO1 := D → DH → K1 → Prop
abbrev WOL := List D → DH → K1 → Prop
def r2 (K : PySem.W.Frag) (w : WO2) : R2 := fun x y H Q => ∃ m h dx dy k, RelH K m H h ∧ RelD K m H dx x ∧ RelD K m H dy y ∧ w dx dy h k ∧ Fol K m H k Q
def r1 (K : PySem.W.Frag) (w : WO1) : V → Hp → VK → Prop := fun x H Q => ∃ m h dx k, RelH K m H h ∧ RelD K m H dx x ∧ w dx h k ∧ Fol K m H k Q
def rL (K : PySem.W.Frag) (w : WOL) : List V → Hp → VK → Prop := fun xs H Q => ∃ m h ds k, RelH K m H h ∧ RelDs K m H ds xs ∧ w ds h k ∧ Fol K m H k Q
def Op2 (X : Cx) (f : Value → Value → Sem Value) (w : WO2) : Prop := OpR X f (r2 X.K w)
def Op1 (X : Cx) (f : Value → Sem Value) (w : WO1) : Prop := UnR X f (r1 X.K w)
def OpL (X : Cx) (f : Value) (w : WOL) : Prop := CallR X f (rL X.K w)

def wBin (o : WO2) (a b : W1) : W1 := fun ρ h k => a ρ h fun x h1 => b ρ h1 fun y h2 => o x y h2 k
def wUn (o : WO1) (a : W1) : W1 := fun ρ h k => a ρ h fun x h1 => o x h1 k
def wApp (o : WOL) (a : WL) : W1 := fun ρ h k => a ρ h fun xs h1 => o xs h1 k

section
variable {X : Cx}
theorem two {wa wb : W1} {o : WO2} {r : R2} (hr : ∀ x y H Q, r2 X.K o x y H Q → r x y H Q) : ∀ σ H Q, tD X.K (wBin o wa wb) σ H Q → tOp r (tD X.K wa) (tD X.K wb) σ H Q :=
  fun σ H Q ⟨m, ρ, h, k, rs, rh, q, c⟩ => ⟨m, ρ, h, _, rs, rh, q, fun d h1 v m1 H1 s1 rh1 rd q1 => ⟨m1, ρ, h1, _, rs.step s1, rh1, q1, fun e h2 u m2 H2 s2 rh2 re q2 =>
    hr _ _ _ _ ⟨m2, h2, d, e, k, rh2, rd.step s2, re, q2, fun d' h3 v' m3 H3 s3 => c d' h3 v' m3 H3 ((s1.trans s2).trans s3)⟩⟩⟩
theorem de_bin {op : Operator} {o : WO2} {a b : Expr} {wa wb : W1} {pos : Pos} (ho : Op2 X (binaryOp op) o) (ha : DE X a wa) (hb : DE X b wb) : DE X (.BinOp a op b pos) (wBin o wa wb) :=
  PE.imp (pe_op ho ha hb) (two fun _ _ _ _ q => q)
theorem de_cmp {op : CmpOp} {o : WO2} {a b : Expr} {wa wb : W1} {pos : Pos} (ho : Op2 X (compareOp op) o) (ha : DE X a wa) (hb : DE X b wb) (hm : behindInMarks op b = false := by first | exact nomark _ | with_unfolding_all rfl) : DE X (.Compare a [op] [b] pos) (wBin o wa wb) :=
  PE.imp (pe_cmpR ho ha hb hm) (two fun _ _ _ _ q => q)
theorem de_un {op : PySem.UnaryOp} {o : WO1} {a : Expr} {wa : W1} {pos : Pos} (ho : Op1 X (unaryOp op) o) (ha : DE X a wa) : DE X (.UnaryOp op a pos) (wUn o wa) :=
  PE.imp (pe_un ho ha) fun σ H Q ⟨m, ρ, h, k, rs, rh, q, c⟩ => ⟨m, ρ, h, _, rs, rh, q, fun d h1 v m1 H1 s1 rh1 rd q1 => ⟨m1, h1, d, k, rh1, rd, q1, fun d' h3 v' m3 H3 s3 => c d' h3 v' m3 H3 (s1.trans s3)⟩⟩

/-- a op b op c -/
def wChain (o o' : WO2) (a b c : W1) : W1 := fun ρ h k => a ρ h fun x h1 => b ρ h1 fun y h2 => o x y h2 fun z h3 => ∃ t, z = .bl t ∧ (if t = true then c ρ h3 fun u h4 => o' y u h4 k else k (.bl false) h3)
theorem de_chain {op op' : CmpOp} {o o' : WO2} {a b c : Expr} {wa wb wc : W1} {pos : Pos} (ho : Op2 X (compareOp op) o) (ho' : Op2 X (compareOp op') o') (ha : DE X a wa) (hb : DE X b wb) (hc : DE X c wc) (hm : lastMarks [op, op'] [b, c] = false := by with_unfolding_all rfl) :
    DE X (.Compare a [op, op'] [b, c] pos) (wChain o o' wa wb wc) :=
  PE.imp (pe_chain ho ho' ha hb hc hm) fun σ H Q ⟨m, ρ, h, k, rs, rh, q, cc⟩ => ⟨m, ρ, h, _, rs, rh, q, fun d h1 v m1 H1 s1 rh1 rd q1 => ⟨m1, ρ, h1, _, rs.step s1, rh1, q1, fun e h2 u m2 H2 s2 rh2 re q2 =>
    ⟨m2, h2, d, e, _, rh2, rd.step s2, re, q2, fun z h3 v3 m3 H3 s3 rh3 rz ⟨t, ez, q3⟩ => by
      subst ez
      unfold RelD at rz
      refine ⟨t, rz, ?_⟩
      cases t with
      | false =>
        rw [if_neg (by decide)] at q3 ⊢
        exact cc (.bl false) h3 (.bl false) m3 H3 ((s1.trans s2).trans s3) rh3 (by unfold RelD; rfl) q3
      | true =>
        rw [if_pos rfl] at q3 ⊢
        exact ⟨m3, ρ, h3, _, ((rs.step s1).step s2).step s3, rh3, q3, fun w' h4 v4 m4 H4 s4 rh4 r4 q4 =>
          ⟨m4, h4, e, w', k, rh4, (re.step s3).step s4, r4, q4, fun d' h5 v' m5 H5 s5 => cc d' h5 v' m5 H5 ((((s1.trans s2).trans s3).trans s4).trans s5)⟩⟩⟩⟩⟩

/-! truth -/
def Tru : D → DH → Bool → Prop
  | .non, _, b => b = false
  | .bl c, _, b => b = c
  | .int i, _, b => b = (i != 0)
  | .str x, _, b => x.length ≤ sizeLine ∧ b = ((x.length : Int) != 0)
  | .tup ds, _, b => b = !ds.isEmpty
  | .lst ds, _, b => b = !ds.isEmpty
  | .rol ds, _, b => b = !ds.isEmpty
  | .ref n, h, b => ∃ ds, h[n]? = some (.lst ds) ∧ b = !ds.isEmpty
  | .sx _ _, _, _ => False
  | .dic _ _, _, _ => False
  | .kd _ _ _, _, _ => False
theorem RelDs.empty {K : PySem.W.Frag} {m : Lay} {H : Hp} {ds : List D} {vs : List V} (r : RelDs K m H ds vs) : ds.isEmpty = vs.isEmpty := by
  have := r.length
  cases ds <;> cases vs <;> simp_all
theorem Tru.ok {K : PySem.W.Frag} {m : Lay} {H : Hp} {h : DH} (rh : RelH K m H h) : ∀ {d : D} {v : V} {b : Bool}, RelD K m H d v → Tru d h b → TruV K v H b
  | .non, v, b, r, t => by unfold RelD at r; subst r; exact t
  | .bl c, v, b, r, t => by unfold RelD at r; subst r; exact t
  | .int i, v, b, r, t => by unfold RelD at r; subst r; exact t
  | .str x, v, b, r, t => by unfold RelD at r; subst r; exact t
  | .tup ds, v, b, r, t => by
    unfold RelD at r
    obtain ⟨a, vs, rfl, ta, rd⟩ := r
    exact .inr (.inl ⟨vs, ta.sq, by rw [← rd.empty]; exact t⟩)
  | .lst ds, v, b, r, t => by
    unfold RelD at r
    obtain ⟨a, vs, rfl, ta, rd⟩ := r
    exact .inl ⟨vs, ta.sq, by rw [← rd.empty]; exact t⟩
  | .rol ds, v, b, r, t => by
    unfold RelD at r
    obtain ⟨a, vs, rfl, ta, rd⟩ := r
    exact .inl ⟨vs, ta.sq, by rw [← rd.empty]; exact t⟩
  | .ref n, v, b, r, t => by
    unfold RelD at r
    obtain ⟨a, rfl, e⟩ := r
    obtain ⟨ds, hn, t⟩ := t
    obtain ⟨a', e', vs, q, rd⟩ := rh.ob n _ hn
    rw [e] at e'; cases e'
    exact .inl ⟨vs, SqL.of q, by rw [← rd.empty]; exact t⟩
  | .sx w ks, v, b, r, t => False.elim t
  | .dic _ _, v, b, r, t => False.elim t
  | .kd _ _ _, v, b, r, t => False.elim t

def wTru (w : W1) : WB := fun ρ h k => w ρ h fun d h1 => ∃ b, Tru d h1 b ∧ k b h1
theorem dt_val {e : Expr} {w : W1} (h : DE X e w) (he : ∀ whole, isTrue e X.env whole = (do let v ← whole; standAt e.pos; holding [v] (truthy v)) := by intro _; rfl) : DT X e (wTru w) :=
  PT.imp (pt_truth h he) fun σ H Q ⟨m, ρ, h, k, rs, rh, q, c⟩ => ⟨m, ρ, h, _, rs, rh, q, fun d h1 v m1 H1 s1 rh1 rd ⟨b, t, q1⟩ => ⟨b, t.ok rh1 rd, c b h1 m1 H1 s1 rh1 q1⟩⟩
def wBl (w : W1) : WB := fun ρ h k => w ρ h fun d h1 => ∃ b, d = .bl b ∧ k b h1
theorem dt_cmp {op : CmpOp} {o : WO2} {a b : Expr} {wa wb : W1} {pos : Pos} (ho : Op2 X (compareOp op) o) (ha : DE X a wa) (hb : DE X b wb) (hm : behindInMarks op b = false := by first | exact nomark _ | with_unfolding_all rfl) : DT X (.Compare a [op] [b] pos) (wBl (wBin o wa wb)) :=
  PT.imp (pt_cmpR ho ha hb hm) fun σ H Q ⟨m, ρ, h, k, rs, rh, q, c⟩ => two (fun _ _ _ _ q => q) σ H _ ⟨m, ρ, h, _, rs, rh, q, fun d h1 v m1 H1 s1 rh1 rd ⟨b, e, q1⟩ => by
    subst e; unfold RelD at rd; subst rd
    exact ⟨b, rfl, c b h1 m1 H1 s1 rh1 q1⟩⟩
theorem dt_chain {op op' : CmpOp} {o o' : WO2} {a b c : Expr} {wa wb wc : W1} {pos : Pos} (ho : Op2 X (compareOp op) o) (ho' : Op2 X (compareOp op') o') (ha : DE X a wa) (hb : DE X b wb) (hc : DE X c wc) (hm : lastMarks [op, op'] [b, c] = false := by with_unfolding_all rfl) :
    DT X (.Compare a [op, op'] [b, c] pos) (wBl (wChain o o' wa wb wc)) :=
  PT.imp (pt_chain ho ho' ha hb hc hm) fun σ H Q ⟨m, ρ, h, k, rs, rh, q, cc⟩ => ⟨m, ρ, h, _, rs, rh, q, fun d h1 v m1 H1 s1 rh1 rd q1 => ⟨m1, ρ, h1, _, rs.step s1, rh1, q1, fun e h2 u m2 H2 s2 rh2 re q2 =>
    ⟨m2, h2, d, e, _, rh2, rd.step s2, re, q2, fun z h3 v3 m3 H3 s3 rh3 rz ⟨t, ez, q3⟩ => by
      subst ez
      unfold RelD at rz
      refine ⟨t, rz, ?_⟩
      cases t with
      | false =>
        rw [if_neg (by decide)] at q3 ⊢
        obtain ⟨b, e3, q4⟩ := q3
        cases e3
        exact ⟨false, rfl, cc false h3 m3 H3 ((s1.trans s2).trans s3) rh3 q4⟩
      | true =>
        rw [if_pos rfl] at q3 ⊢
        exact ⟨m3, ρ, h3, _, ((rs.step s1).step s2).step s3, rh3, q3, fun w' h4 v4 m4 H4 s4 rh4 r4 q4 =>
          ⟨m4, h4, e, w', _, rh4, (re.step s3).step s4, r4, q4, fun d' h5 v' m5 H5 s5 rh5 r5 ⟨b, eb, q5⟩ => by
            subst eb; unfold RelD at r5; subst r5
            exact ⟨b, rfl, cc b h5 m5 H5 ((((s1.trans s2).trans s3).trans s4).trans s5) rh5 q5⟩⟩⟩⟩⟩⟩

/-! and, or, not -/
def DW (X : Cx) (e : Expr) (w : WB) : Prop := PW X e (tDB X.K w)
theorem DW.dt {e : Expr} {w : WB} (h : DW X e w) : DT X e w := PW.pt h
theorem PW.imp {e : Expr} {t t' : TT} (h : PW X e t) (i : ∀ σ H Q, t' σ H Q → t σ H Q) : PW X e t' := ⟨fun wh pins s σ H Q I q => h.run wh pins s σ H Q I (i _ _ _ q)⟩
def wAndB (a b : WB) : WB := fun ρ h k => a ρ h fun c h1 => if c = true then b ρ h1 k else k false h1
def wOrB (a b : WB) : WB := fun ρ h k => a ρ h fun c h1 => if c = true then k true h1 else b ρ h1 k
def wNotB (a : WB) : WB := fun ρ h k => a ρ h fun c h1 => k (!c) h1
theorem dw_and1 {a : Expr} {wa : WB} {pos : Pos} (ha : DT X a wa) : DW X (.BoolOp .And [a] pos) wa := pw_and1 ha
theorem dw_or1 {a : Expr} {wa : WB} {pos : Pos} (ha : DT X a wa) : DW X (.BoolOp .Or [a] pos) wa := pw_or1 ha
theorem dw_and {a b : Expr} {rest : List Expr} {wa wb : WB} {pos : Pos} (ha : DT X a wa) (hb : DW X (.BoolOp .And (b :: rest) pos) wb) : DW X (.BoolOp .And (a :: b :: rest) pos) (wAndB wa wb) :=
  PW.imp (pw_and ha hb) fun σ H Q ⟨m, ρ, h, k, rs, rh, q, c⟩ => ⟨m, ρ, h, _, rs, rh, q, fun b h1 m1 H1 s1 rh1 q1 => by
    cases b with
    | false => exact c false h1 m1 H1 s1 rh1 q1
    | true => exact ⟨m1, ρ, h1, k, rs.step s1, rh1, q1, fun b h2 m2 H2 s2 => c b h2 m2 H2 (s1.trans s2)⟩⟩
theorem dw_or {a b : Expr} {rest : List Expr} {wa wb : WB} {pos : Pos} (ha : DT X a wa) (hb : DW X (.BoolOp .Or (b :: rest) pos) wb) : DW X (.BoolOp .Or (a :: b :: rest) pos) (wOrB wa wb) :=
  PW.imp (pw_or ha hb) fun σ H Q ⟨m, ρ, h, k, rs, rh, q, c⟩ => ⟨m, ρ, h, _, rs, rh, q, fun b h1 m1 H1 s1 rh1 q1 => by
    cases b with
    | true => exact c true h1 m1 H1 s1 rh1 q1
    | false => exact ⟨m1, ρ, h1, k, rs.step s1, rh1, q1, fun b h2 m2 H2 s2 => c b h2 m2 H2 (s1.trans s2)⟩⟩
theorem dt_not {a : Expr} {wa : WB} {pos : Pos} (ha : DT X a wa) : DT X (.UnaryOp .Not a pos) (wNotB wa) :=
  PT.imp (pt_not ha) fun σ H Q ⟨m, ρ, h, k, rs, rh, q, c⟩ => ⟨m, ρ, h, _, rs, rh, q, fun b h1 m1 H1 s1 rh1 q1 => c (!b) h1 m1 H1 s1 rh1 q1⟩
/-- as values -/
def wAnd (a b : W1) : W1 := fun ρ h k => a ρ h fun x h1 => ∃ c, Tru x h1 c ∧ if c = true then b ρ h1 k else k x h1
def wOr (a b : W1) : W1 := fun ρ h k => a ρ h fun x h1 => ∃ c, Tru x h1 c ∧ if c = true then k x h1 else b ρ h1 k
def wNot (a : W1) : W1 := fun ρ h k => a ρ h fun x h1 => ∃ c, Tru x h1 c ∧ k (.bl (!c)) h1
theorem de_one {op} {a : Expr} {wa : W1} {pos : Pos} (ha : DE X a wa) : DE X (.BoolOp op [a] pos) wa := pe_one ha
theorem de_and {a b : Expr} {rest : List Expr} {wa wb : W1} {pos : Pos} (ha : DE X a wa) (hb : DE X (.BoolOp .And (b :: rest) pos) wb) : DE X (.BoolOp .And (a :: b :: rest) pos) (wAnd wa wb) :=
  PE.imp (pe_andT ha hb) fun σ H Q ⟨m, ρ, h, k, rs, rh, q, c⟩ => ⟨m, ρ, h, _, rs, rh, q, fun d h1 v m1 H1 s1 rh1 rd ⟨b, t, q1⟩ => ⟨b, t.ok rh1 rd, by
    cases b with
    | false => exact c d h1 v m1 H1 s1 rh1 rd q1
    | true => exact ⟨m1, ρ, h1, k, rs.step s1, rh1, q1, fun b h2 v m2 H2 s2 => c b h2 v m2 H2 (s1.trans s2)⟩⟩⟩
theorem de_or {a b : Expr} {rest : List Expr} {wa wb : W1} {pos : Pos} (ha : DE X a wa) (hb : DE X (.BoolOp .Or (b :: rest) pos) wb) : DE X (.BoolOp .Or (a :: b :: rest) pos) (wOr wa wb) :=
  PE.imp (pe_orT ha hb) fun σ H Q ⟨m, ρ, h, k, rs, rh, q, c⟩ => ⟨m, ρ, h, _, rs, rh, q, fun d h1 v m1 H1 s1 rh1 rd ⟨b, t, q1⟩ => ⟨b, t.ok rh1 rd, by
    cases b with
    | true => exact c d h1 v m1 H1 s1 rh1 rd q1
    | false => exact ⟨m1, ρ, h1, k, rs.step s1, rh1, q1, fun b h2 v m2 H2 s2 => c b h2 v m2 H2 (s1.trans s2)⟩⟩⟩
theorem de_not {a : Expr} {wa : W1} {pos : Pos} (ha : DE X a wa) : DE X (.UnaryOp .Not a pos) (wNot wa) :=
  PE.imp (pe_notT ha) fun σ H Q ⟨m, ρ, h, k, rs, rh, q, c⟩ => ⟨m, ρ, h, _, rs, rh, q, fun d h1 v m1 H1 s1 rh1 rd ⟨b, t, q1⟩ => ⟨b, t.ok rh1 rd, c (.bl (!b)) h1 (.bl (!b)) m1 H1 s1 rh1 (by unfold RelD; rfl) q1⟩⟩
def wIf (t : WB) (a b : W1) : W1 := fun ρ h k => t ρ h fun c h1 => if c = true then a ρ h1 k else b ρ h1 k
theorem de_if {t a b : Expr} {wt : WB} {wa wb : W1} {pos : Pos} (ht : DT X t wt) (ha : DE X a wa) (hb : DE X b wb) : DE X (.IfExp t a b pos) (wIf wt wa wb) :=
  PE.imp (pe_ifExp ht ha hb) fun σ H Q ⟨m, ρ, h, k, rs, rh, q, c⟩ => ⟨m, ρ, h, _, rs, rh, q, fun b h1 m1 H1 s1 rh1 q1 => by
    cases b with
    | true => exact ⟨m1, ρ, h1, k, rs.step s1, rh1, q1, fun b h2 v m2 H2 s2 => c b h2 v m2 H2 (s1.trans s2)⟩
    | false => exact ⟨m1, ρ, h1, k, rs.step s1, rh1, q1, fun b h2 v m2 H2 s2 => c b h2 v m2 H2 (s1.trans s2)⟩⟩
end
end Vf

namespace Vf
open PySem PySem.Spec PyProof.Rows L2

theorem deeper_guards (A : Around) (env : Env) : (A.deeper env).guards = A.guards := by
  first | rfl | (cases A; simp [Around.deeper])

/-- a def's promise where no repr is under way -/
structure FnG (P : Program) (w : World) (K : PySem.W.Frag) (mg : Str → Option Value) (base : Heap) (CX : CXT) (n : Nat) (f : Addr) (fd : FuncData) (ps : List Str) (sp : Sp) : Prop where
  len : ∀ vs H Q E, sp vs H Q E → vs.length = ps.length
  go : ∀ (A : Around) (ou : List Env) (s : Shared) (H : Hp) (ar : Args) (us : List Value) (vs : List V) (Q : VK) (E : XK), A.guards = some [] → Room n A →
    Env0 P w K mg base A ou s H → BindsTo s fd ar (ps.zip us) → Vals vs us → sp vs H Q E → codeAny (model P w) A (.call (.ref f) ar) (CR CX ou P w H s Q E) s
theorem FnG.up {P : Program} {w : World} {K : PySem.W.Frag} {mg : Str → Option Value} {base : Heap} {CX : CXT} {j n : Nat} {f : Addr} {fd : FuncData} {ps : List Str} {sp : Sp} (F : FnG P w K mg base CX j f fd ps sp) (h : j ≤ n) :
    FnG P w K mg base CX n f fd ps sp := ⟨F.len, fun A ou s H ar us vs Q E g r => F.go A ou s H ar us vs Q E g (r.mono h)⟩
theorem FnG.of {P : Program} {w : World} {K : PySem.W.Frag} {mg : Str → Option Value} {base : Heap} {CX : CXT} {n : Nat} {f : Addr} {fd : FuncData} {ps : List Str} {sp : Sp} (F : FnOk P w K mg base CX n f fd ps sp) :
    FnG P w K mg base CX n f fd ps sp := ⟨F.len, fun A ou s H ar us vs Q E _ r => F.run A ou s H ar us vs Q E r⟩

theorem fnG_of {CX : CXT} {P : Program} {w : World} {K : PySem.W.Frag} {mg : Str → Option Value} {base : Heap} {n : Nat} {f : Addr} {nm qual : Str} {pa : Arguments} {bo : List Stmt} {sc : Scope} {dV kV doc pm cdv ct oc : Value} {an od : Option Addr}
    {osl : Array (Option Value)} {N ps : List Str} {sp : Sp} (lk : K.lookup f = some ⟨oc, od, .func (PySem.W.fnOf nm qual pa bo sc dV kV doc pm an cdv ct), osl⟩) (hcd : PySem.W.codeIn K cdv qual = true) (S : FnScope N ps sc)
    (len : ∀ vs H Q E, sp vs H Q E → vs.length = ps.length)
    (hb : ∀ (A : Around) (ou : List Env) (s : Shared) (H : Hp) (vs : List V) (Q : VK) (E : XK), (A.deeper (envOfC qual sc s.heap.objs.size f cdv)).guards = some [] → Room n (A.deeper (envOfC qual sc s.heap.objs.size f cdv)) → sp vs H Q E →
      ∃ t, PSs (cxOf CX P w K mg base N qual sc f cdv A ou s H E) bo t ∧ t { nx := fun _ H' => Q .non H', rt := Q } (start N vs) H) :
    FnG P w K mg base CX (n + 1) f (PySem.W.fnOf nm qual pa bo sc dV kV doc pm an cdv ct) ps sp := by
  refine ⟨len, fun A ou s H ar us vs Q E hgu room e0 bnd rl hsp => ?_⟩
  have KX : K.In s.heap := e0.mod.kin.keeps (fun b o q => (e0.bs b o q).1)
  have hkd : ∀ y ∈ ps.zip us, sc.names.lookup y.1 = some .local ∨ (sc.names.lookup y.1 = some .cell ∧ ((cellsFrom (s.heap.objs.size + 1) sc.names []).lookup y.1).isSome = true) := by
    intro y hy
    have hp := S.par y.1 (List.of_mem_zip (a := y.1) (b := y.2) hy).1
    exact hp.imp (fun q => q) (fun q => ⟨q, PySem.W.cellsFrom_some _ _ _ (Or.inl q)⟩)
  refine codeAny_call_function room.depth (KX _ _ lk) rfl S.co S.gen rfl (PySem.W.codeRec_of KX hcd) (bnd _ _ _ _ ?_)
  refine wpAny_newFunctionEnv_cells S.kind hkd (fun env ee s1 x => ?_)
  subst ee
  refine ⟨(e0.mod.nolimit.keeps (fun b o q => (e0.bs b o q).1)).keeps x.toInCall.keep, codeAny_func ?_⟩
  obtain ⟨t, pt, tq⟩ := hb A ou s H vs Q E ((deeper_guards _ _).trans hgu) (room.deeper _) hsp
  have I := inv_start (CX := CX) (E := E) S room.hd e0 (len _ _ _ _ hsp) rl x
  refine wpAny_mono (pt.run [] s1 (start N vs) H _ I tq) (fun fl s' hs => ?_) (fun _ _ z => z)
  cases fl with
  | ret u =>
    obtain ⟨v, σ', H', J, rv, q⟩ := hs
    exact ⟨v, H', J.os, J.bare, J.base, J.hok, rv, q⟩
  | next =>
    obtain ⟨σ', H', J, q⟩ := hs
    exact ⟨V.non, H', J.os, J.bare, J.base, J.hok, (rfl : Value.none = Value.none), q⟩
  | brk => exact False.elim hs.choose_spec.choose_spec.2
  | cont => exact False.elim hs.choose_spec.choose_spec.2

section
variable {X : Cx} {CX : CXT} {n : Nat} {f : Addr} {fd : FuncData} {ps : List Str} {sp : Sp} {E : XK}
theorem runG {pins : List (Addr × Obj)} {σ : L2.St} {H : Hp} {s : Shared} {Q : VK} {us : List Value} {ks : List (Str × Value)} {ws : List Value} {vs : List V} (F : FnG X.prog X.w X.K X.mg X.base CX n f fd ps sp) (hg : X.A.guards = some []) (room : Room n X.A) (hx : Passes CX X E)
    (I : Inv X pins σ H s) (bnd : BindsTo s fd ⟨us, ks⟩ (ps.zip ws)) (rl : Vals vs ws) (q : sp vs H Q E) : wpAny (model X.prog X.w) X.A (call (.ref f) us ks) (EP X pins σ Q) X.xe s := by
  refine wpAny_call (codeAny_mono (F.go X.A X.stack s H ⟨us, ks⟩ ws vs Q E hg room I.env0 bnd rl q) (fun r s' z => ?_))
  rcases r with fl | er
  · exact hx pins σ H s _ s' I z
  · revert z
    cases er <;> intro z
    all_goals first | exact I.after z | exact False.elim z
end
end Vf

namespace Vf
open PySem PySem.Spec PyProof.Rows L2

abbrev KS := Rho → DH → Prop
structure DEn where
  nx : KS
  rt : K1
  bk : KS := fun _ _ => False
  ct : KS := fun _ _ => False
abbrev WS := DEn → Rho → DH → Prop
def FolN (K : PySem.W.Frag) (m : Lay) (H : Hp) (k : KS) (Q : L2.St → Hp → Prop) : Prop :=
  ∀ ρ' h' σ' m' H', Step m H m' H' → RelS K m' H' σ' ρ' → RelH K m' H' h' → k ρ' h' → Q σ' H'
structure FolS (K : PySem.W.Frag) (m : Lay) (H : Hp) (e : DEn) (D : Ends) : Prop where
  nx : FolN K m H e.nx D.nx
  rt : Fol K m H e.rt D.rt
  bk : FolN K m H e.bk D.bk
  ct : FolN K m H e.ct D.ct
theorem FolN.step {K : PySem.W.Frag} {m m1 : Lay} {H H1 : Hp} {k : KS} {Q : L2.St → Hp → Prop} (f : FolN K m H k Q) (s : Step m H m1 H1) : FolN K m1 H1 k Q := fun ρ' h' σ' m' H' s' => f ρ' h' σ' m' H' (s.trans s')
theorem Fol.step {K : PySem.W.Frag} {m m1 : Lay} {H H1 : Hp} {k : K1} {Q : VK} (f : Fol K m H k Q) (s : Step m H m1 H1) : Fol K m1 H1 k Q := fun ρ' h' σ' m' H' s' => f ρ' h' σ' m' H' (s.trans s')
theorem FolS.step {K : PySem.W.Frag} {m m1 : Lay} {H H1 : Hp} {e : DEn} {D : Ends} (f : FolS K m H e D) (s : Step m H m1 H1) : FolS K m1 H1 e D := ⟨f.nx.step s, f.rt.step s, f.bk.step s, f.ct.step s⟩
def tDS (K : PySem.W.Frag) (w : WS) : TS := fun D σ H => ∃ (m : Lay) (ρ : Rho) (h : DH) (e : DEn), RelS K m H σ ρ ∧ RelH K m H h ∧ w e ρ h ∧ FolS K m H e D
def DS (X : Cx) (s : Stmt) (w : WS) : Prop := PS X s (tDS X.K w)
def DSs (X : Cx) (s : List Stmt) (w : WS) : Prop := PSs X s (tDS X.K w)

theorem RelS.set {K : PySem.W.Frag} {m : Lay} {H : Hp} {σ : L2.St} {ρ : Rho} (r : RelS K m H σ ρ) (i : Nat) {d : D} {v : V} (rd : RelD K m H d v) : RelS K m H (σ.set i (some v)) (ρ.set i (some d)) := by
  refine ⟨by rw [List.length_set, List.length_set]; exact r.len, fun j e he => ?_⟩
  by_cases hj : i = j
  · subst hj
    have hl : i < ρ.length := by
      have := (List.getElem?_eq_some_iff.mp he).1
      rwa [List.length_set] at this
    rw [List.getElem?_set_self hl] at he
    cases he
    exact ⟨v, by rw [List.getElem?_set_self (by rw [r.len]; exact hl)], rd⟩
  · rw [List.getElem?_set_ne hj] at he ⊢
    exact r.sl j e he

section
variable {X : Cx}
def wNil' : WS := fun e ρ h => e.nx ρ h
def wSeq (a b : WS) : WS := fun e ρ h => a { e with nx := b e } ρ h
theorem ds_nil : DSs X [] wNil' := PSs.imp pss_nil fun D σ H ⟨m, ρ, h, e, rs, rh, q, f⟩ => f.nx ρ h σ m H (Step.refl m H) rs rh q
theorem ds_cons {s : Stmt} {r : List Stmt} {a b : WS} (hs : DS X s a) (hr : DSs X r b) : DSs X (s :: r) (wSeq a b) :=
  PSs.imp (pss_cons hs hr) fun D σ H ⟨m, ρ, h, e, rs, rh, q, f⟩ => ⟨m, ρ, h, { e with nx := b e }, rs, rh, q, fun ρ' h' σ' m' H' s' rs' rh' q' => ⟨m', ρ', h', e, rs', rh', q', f.step s'⟩, f.rt, f.bk, f.ct⟩
theorem ds_one {s : Stmt} {a : WS} (hs : DS X s a) : DSs X [s] a := pss_one hs
def wDrop (w : W1) : WS := fun e ρ h => w ρ h fun _ h1 => e.nx ρ h1
theorem ds_expr {e : Expr} {w : W1} {pos : Pos} (he : DE X e w) (hs : swapsWith e none pos.line X.env = pure false := by rfl) : DS X (.Expr e pos) (wDrop w) :=
  PS.imp (ps_expr he hs) fun D σ H ⟨m, ρ, h, e, rs, rh, q, f⟩ => ⟨m, ρ, h, _, rs, rh, q, fun d h1 v m1 H1 s1 rh1 rd q1 => f.nx ρ h1 σ m1 H1 s1 (rs.step s1) rh1 q1⟩
def wRet (w : W1) : WS := fun e ρ h => w ρ h e.rt
theorem ds_ret {e : Expr} {w : W1} {pos : Pos} (he : DE X e w) : DS X (.Return (some e) pos) (wRet w) :=
  PS.imp (ps_ret he) fun D σ H ⟨m, ρ, h, e, rs, rh, q, f⟩ => ⟨m, ρ, h, _, rs, rh, q, f.rt⟩
def wRetN : WS := fun e _ h => e.rt .non h
theorem ds_retN {pos : Pos} : DS X (.Return none pos) wRetN :=
  PS.imp ps_retN fun D σ H ⟨m, ρ, h, e, rs, rh, q, f⟩ => f.rt .non h .non m H (Step.refl m H) rh (by unfold RelD; rfl) q
def wIfS (t : WB) (a b : WS) : WS := fun e ρ h => t ρ h fun c h1 => if c = true then a e ρ h1 else b e ρ h1
theorem ds_if {t : Expr} {a b : List Stmt} {wt : WB} {wa wb : WS} {pos : Pos} (ht : DT X t wt) (ha : DSs X a wa) (hb : DSs X b wb) : DS X (.If t a b pos) (wIfS wt wa wb) :=
  PS.imp (ps_if ht ha hb) fun D σ H ⟨m, ρ, h, e, rs, rh, q, f⟩ => ⟨m, ρ, h, _, rs, rh, q, fun c h1 m1 H1 s1 rh1 q1 => by
    cases c with
    | true => exact ⟨m1, ρ, h1, e, rs.step s1, rh1, q1, f.step s1⟩
    | false => exact ⟨m1, ρ, h1, e, rs.step s1, rh1, q1, f.step s1⟩⟩
theorem ds_pass {pos : Pos} : DS X (.Pass pos) wNil' := PS.imp ps_pass fun D σ H ⟨m, ρ, h, e, rs, rh, q, f⟩ => f.nx ρ h σ m H (Step.refl m H) rs rh q
def wBrk : WS := fun e ρ h => e.bk ρ h
def wCont : WS := fun e ρ h => e.ct ρ h
theorem ds_break {pos : Pos} : DS X (.Break pos) wBrk := PS.imp ps_break fun D σ H ⟨m, ρ, h, e, rs, rh, q, f⟩ => f.bk ρ h σ m H (Step.refl m H) rs rh q
theorem ds_cont {pos : Pos} : DS X (.Continue pos) wCont := PS.imp ps_continue fun D σ H ⟨m, ρ, h, e, rs, rh, q, f⟩ => f.ct ρ h σ m H (Step.refl m H) rs rh q

/-! targets -/
abbrev WG := D → Rho → DH → KS → Prop
abbrev WGs := List D → Rho → DH → KS → Prop
def tDG (K : PySem.W.Frag) (w : WG) : TG := fun v σ H Q => ∃ (m : Lay) (ρ : Rho) (h : DH) (d : D) (k : KS), RelS K m H σ ρ ∧ RelH K m H h ∧ RelD K m H d v ∧ w d ρ h k ∧ FolN K m H k Q
def tDGs (K : PySem.W.Frag) (w : WGs) : TGs := fun vs σ H Q => ∃ (m : Lay) (ρ : Rho) (h : DH) (ds : List D) (k : KS), RelS K m H σ ρ ∧ RelH K m H h ∧ RelDs K m H ds vs ∧ w ds ρ h k ∧ FolN K m H k Q
def DG (X : Cx) (e : Expr) (w : WG) : Prop := PG X e (tDG X.K w)
def DGs (X : Cx) (e : List Expr) (w : WGs) : Prop := PGs X e (tDGs X.K w)
theorem PG.imp {e : Expr} {t t' : TG} (h : PG X e t) (i : ∀ v σ H Q, t' v σ H Q → t v σ H Q) : PG X e t' := ⟨fun pins s σ H v u Q I r q => h.run pins s σ H v u Q I r (i _ _ _ _ q)⟩
theorem PGs.imp {e : List Expr} {t t' : TGs} (h : PGs X e t) (i : ∀ v σ H Q, t' v σ H Q → t v σ H Q) : PGs X e t' := ⟨fun pins s σ H v u Q I r q => h.run pins s σ H v u Q I r (i _ _ _ _ q)⟩
def wGN (i : Nat) : WG := fun d ρ h k => k (ρ.set i (some d)) h
theorem dg_name {x : Str} {pos : Pos} (i : Nat) (hN : X.N.Nodup) (hi : X.N[i]? = some x := by rfl) (hx : Loc X.env.scope x := by first | exact Or.inl rfl | exact Or.inr rfl)
    (hf : X.fn x = true ∨ X.env.scope.names.lookup x = some .local := by first | exact .inl rfl | exact .inr rfl) : DG X (.Name x pos) (wGN i) :=
  PG.imp (pg_name hN hi hx hf) fun v σ H Q ⟨m, ρ, h, d, k, rs, rh, rd, q, f⟩ => f (ρ.set i (some d)) h (σ.set i (some v)) m H (Step.refl m H) (rs.set i rd) rh q
def wGNil : WGs := fun ds ρ h k => ds = [] ∧ k ρ h
def wGCons (a : WG) (b : WGs) : WGs := fun ds ρ h k => ∃ d r, ds = d :: r ∧ a d ρ h fun ρ1 h1 => b r ρ1 h1 k
theorem dgs_nil : DGs X [] wGNil := PGs.imp pgs_nil fun v σ H Q ⟨m, ρ, h, ds, k, rs, rh, rd, ⟨e, q⟩, f⟩ => by
  subst e; unfold RelDs at rd
  exact ⟨rd, f ρ h σ m H (Step.refl m H) rs rh q⟩
theorem dgs_cons {e : Expr} {es : List Expr} {a : WG} {b : WGs} (h1 : DG X e a) (h2 : DGs X es b) (hs : (assignEach (e :: es) X.env).map (·.2) = assign e X.env :: (assignEach es X.env).map (·.2) := by rfl) : DGs X (e :: es) (wGCons a b) :=
  PGs.imp (pgs_cons h1 h2 hs) fun vs σ H Q ⟨m, ρ, h, ds, k, rs, rh, rd, ⟨d, r, e, q⟩, f⟩ => by
    subst e; unfold RelDs at rd
    obtain ⟨v, r', rfl, r1, r2⟩ := rd
    exact ⟨v, r', rfl, m, ρ, h, d, _, rs, rh, r1, q, fun ρ1 h1 σ1 m1 H1 s1 rs1 rh1 q1 => ⟨m1, ρ1, h1, r, k, rs1, rh1, r2.step s1, q1, f.step s1⟩⟩
def wGTup (n : Nat) (w : WGs) : WG := fun d ρ h k => ∃ ds, d = .tup ds ∧ ds.length = n ∧ w ds ρ h k
theorem dg_tup {es : List Expr} {k : Nat} {w : WGs} {n : Nat} {pos : Pos} (hc : X.calm = true) (h : DGs X es w) (hn : (assignEach es X.env).length = n := by rfl) (hst : (assignEach es X.env).findIdx? (·.1) = none := by rfl) : DG X (.Tuple es k pos) (wGTup n w) :=
  PG.imp (pg_tup hc h hn hst) fun v σ H Q ⟨m, ρ, h, d, k, rs, rh, rd, ⟨ds, e, hl, q⟩, f⟩ => by
    subst e; unfold RelD at rd
    obtain ⟨a, vs, rfl, ta, r⟩ := rd
    exact ⟨a, vs, rfl, ta.sq, by rw [← r.length]; exact hl, m, ρ, h, ds, k, rs, rh, r, q, f⟩
def wAsg (w : W1) (g : WG) : WS := fun e ρ h => w ρ h fun d h1 => g d ρ h1 e.nx
theorem ds_asg {tg e : Expr} {w : W1} {g : WG} {pos : Pos} (he : DE X e w) (hg : DG X tg g) (hs : swapsWithSole [tg] e pos.line X.env = pure false := by rfl) (hw : swappedStores [tg] e X.env = pure none := by rfl) (h1 : (assignEach [tg] X.env).map (·.2) = [assign tg X.env] := by rfl) : DS X (.Assign [tg] e pos) (wAsg w g) :=
  PS.imp (ps_asg he hg hs hw h1) fun D σ H ⟨m, ρ, h, e, rs, rh, q, f⟩ => ⟨m, ρ, h, _, rs, rh, q, fun d h1 v m1 H1 s1 rh1 rd q1 => ⟨m1, ρ, h1, d, e.nx, rs.step s1, rh1, rd, q1, f.nx.step s1⟩⟩
def wSet (i : Nat) (w : W1) : WS := fun e ρ h => w ρ h fun d h1 => e.nx (ρ.set i (some d)) h1
theorem ds_set {x : Str} {e : Expr} {w : W1} {pos pos' : Pos} (i : Nat) (hN : X.N.Nodup) (he : DE X e w) (hi : X.N[i]? = some x := by rfl) (hx : Loc X.env.scope x := by first | exact Or.inl rfl | exact Or.inr rfl)
    (hs : swapsWith e (some (.Name x pos')) pos.line X.env = pure false := by rfl) (hf : X.fn x = true ∨ X.env.scope.names.lookup x = some .local := by first | exact .inl rfl | exact .inr rfl) : DS X (.Assign [.Name x pos'] e pos) (wSet i w) :=
  PS.imp (ps_set hN hi hx he hs hf) fun D σ H ⟨m, ρ, h, e, rs, rh, q, f⟩ => ⟨m, ρ, h, _, rs, rh, q, fun d h1 v m1 H1 s1 rh1 rd q1 => f.nx (ρ.set i (some d)) h1 _ m1 H1 s1 ((rs.step s1).set i rd) rh1 q1⟩
def wPar (i j : Nat) (w : WL) : WS := fun e ρ h => w ρ h fun ds h1 => ∃ a b, ds = [a, b] ∧ e.nx ((ρ.set i (some a)).set j (some b)) h1
theorem RelDs.two {K : PySem.W.Frag} {m : Lay} {H : Hp} {a b : D} {vs : List V} (r : RelDs K m H [a, b] vs) : ∃ u v, vs = [u, v] ∧ RelD K m H a u ∧ RelD K m H b v := by
  unfold RelDs RelDs RelDs at r
  obtain ⟨u, r1, rfl, h1, v, r2, rfl, h2, rfl⟩ := r
  exact ⟨u, v, rfl, h1, h2⟩
theorem ds_par {x y : Str} {a b : Expr} {w : WL} {pos px py pt : Pos} {kt k2 pt2} (i j : Nat) (hc : X.calm = true) (hN : X.N.Nodup) (ha : DA X [a, b] w) (hi : X.N[i]? = some x := by rfl) (hj : X.N[j]? = some y := by rfl) (hij : i ≠ j := by decide)
    (hx : X.env.scope.names.lookup x = some .local := by rfl) (hy : X.env.scope.names.lookup y = some .local := by rfl)
    (hw : swappedStores [.Tuple [.Name x px, .Name y py] kt pt] (.Tuple [a, b] k2 pt2) X.env = pure (some [x, y]) := by rfl)
    (hs : swapsWithSole [.Tuple [.Name x px, .Name y py] kt pt] (.Tuple [a, b] k2 pt2) pos.line X.env = pure false := by rfl) : DS X (.Assign [.Tuple [.Name x px, .Name y py] kt pt] (.Tuple [a, b] k2 pt2) pos) (wPar i j w) :=
  PS.imp (ps_par hc hN hi hj hij hx hy ha hw hs) fun D σ H ⟨m, ρ, h, e, rs, rh, q, f⟩ => ⟨m, ρ, h, _, rs, rh, q, fun ds h1 vs m1 H1 s1 rh1 rd ⟨a, b, e1, q1⟩ => by
    subst e1
    obtain ⟨u, v, rfl, r1, r2⟩ := rd.two
    exact ⟨u, v, rfl, f.nx _ h1 _ m1 H1 s1 (((rs.step s1).set i r1).set j r2) rh1 q1⟩⟩
def wPar3 (i j l : Nat) (w : WL) : WS := fun e ρ h => w ρ h fun ds h1 => ∃ a b c, ds = [a, b, c] ∧ e.nx (((ρ.set i (some a)).set j (some b)).set l (some c)) h1

/-! stores by place -/
def rSetD (K : PySem.W.Frag) (w : D → D → D → DH → (DH → Prop) → Prop) : TSet := fun o i v H Q => ∃ m h do_ di dv k, RelH K m H h ∧ RelD K m H do_ o ∧ RelD K m H di i ∧ RelD K m H dv v ∧ w do_ di dv h k ∧ ∀ h' m' H', Step m H m' H' → RelH K m' H' h' → k h' → Q H'
theorem ds_par3 {x y z : Str} {a b c : Expr} {w : WL} {pos px py pz pt : Pos} {kt k2 pt2} (i j l : Nat) (hc : X.calm = true) (hN : X.N.Nodup) (ha : DA X [a, b, c] w) (hi : X.N[i]? = some x := by rfl) (hj : X.N[j]? = some y := by rfl) (hl : X.N[l]? = some z := by rfl) (hij : i ≠ j := by decide) (hil : i ≠ l := by decide) (hjl : j ≠ l := by decide)
    (hx : X.env.scope.names.lookup x = some .local := by rfl) (hy : X.env.scope.names.lookup y = some .local := by rfl) (hz : X.env.scope.names.lookup z = some .local := by rfl)
    (hw : swappedStores [.Tuple [.Name x px, .Name y py, .Name z pz] kt pt] (.Tuple [a, b, c] k2 pt2) X.env = pure (some [x, y, z]) := by rfl)
    (hs : swapsWithSole [.Tuple [.Name x px, .Name y py, .Name z pz] kt pt] (.Tuple [a, b, c] k2 pt2) pos.line X.env = pure false := by rfl) : DS X (.Assign [.Tuple [.Name x px, .Name y py, .Name z pz] kt pt] (.Tuple [a, b, c] k2 pt2) pos) (wPar3 i j l w) :=
  PS.imp (ps_par3 hc hN hi hj hl hij hil hjl hx hy hz ha hw hs) fun D σ H ⟨m, ρ, h, e, rs, rh, q, f⟩ => ⟨m, ρ, h, _, rs, rh, q, fun ds h1 vs m1 H1 s1 rh1 rd ⟨a, b, c, e1, q1⟩ => by
    subst e1
    unfold RelDs at rd
    obtain ⟨u, r, rfl, r1, rd⟩ := rd
    obtain ⟨v, t, rfl, r2, r3⟩ := rd.two
    exact ⟨u, v, t, rfl, f.nx _ h1 _ m1 H1 s1 ((((rs.step s1).set i r1).set j r2).set l r3) rh1 q1⟩⟩

/-! a changeable list -/
theorem Step.put {K : PySem.W.Frag} {m : Lay} {H : Hp} {h : DH} (r : RelH K m H h) {a : Addr} (o : HO) (ha : a ∈ m.m) : Step m H m (L2.upd H a o) :=
  ⟨⟨⟨[], by simp⟩, fun b h n => absurd h n, fun b u n e => by rw [upd_ne (fun (z : b = a) => n (.inl (by rw [z]; exact ha)))]; exact e⟩, rfl, fun b hb => upd_ne fun z => r.dj a ha (z ▸ hb)⟩
theorem RelH.put {K : PySem.W.Frag} {m : Lay} {H : Hp} {h : DH} (r : RelH K m H h) {n : Nat} {a : Addr} (hn : m.m[n]? = some a) {ds : List D} {vs : List V} (rd : RelDs K m H ds vs) : RelH K m (L2.upd H a (.lst vs)) (h.set n (.lst ds)) := by
  have am : a ∈ m.m := List.mem_of_getElem? hn
  have sp : Step m H m (L2.upd H a (.lst vs)) := Step.put r _ am
  refine ⟨by rw [List.length_set]; exact r.len, r.nd, r.dj, fun b hb => ?_, fun j o e => ?_⟩
  · rw [sp.rsv b hb]; exact r.tr b hb
  by_cases hj : n = j
  · subst hj
    have hl : n < h.length := by
      have := (List.getElem?_eq_some_iff.mp e).1
      rwa [List.length_set] at this
    rw [List.getElem?_set_self hl] at e
    cases e
    exact ⟨a, hn, vs, upd_same, rd.step sp⟩
  · rw [List.getElem?_set_ne hj] at e
    obtain ⟨b, eb, q⟩ := r.ob j o e
    refine ⟨b, eb, ?_⟩
    have hne : b ≠ a := by
      rintro rfl
      exact hj ((List.getElem?_inj (List.getElem?_eq_some_iff.mp hn).1 r.nd).mp (hn.trans eb.symm))
    exact q.keep sp.mv (upd_ne hne)
def Lay.push (m : Lay) (p : Addr) : Lay := ⟨m.m ++ [p], m.o⟩
theorem Step.push {K : PySem.W.Frag} {m : Lay} {H : Hp} {h : DH} (r : RelH K m H h) {p : Addr} (o : HO) (hp : H p = none) : Step m H (m.push p) (L2.upd H p o) :=
  ⟨⟨⟨[p], rfl⟩, fun b h n => by
    rcases h with h | h
    · rcases List.mem_append.mp h with z | z
      · exact absurd (.inl z) n
      · rw [List.mem_singleton.mp z]; exact hp
    · exact absurd (.inr h) n, fun b u n e => by rw [upd_ne (ne_of_none e hp)]; exact e⟩, rfl, fun b hb => by
      obtain ⟨u, e, _⟩ := r.tr b hb
      rw [upd_ne (ne_of_none e hp)]⟩
theorem RelH.push {K : PySem.W.Frag} {m : Lay} {H : Hp} {h : DH} (r : RelH K m H h) {p : Addr} (hp : H p = none) {ds : List D} {vs : List V} (rd : RelDs K m H ds vs) : RelH K (m.push p) (L2.upd H p (.lst vs)) (h ++ [.lst ds]) := by
  have sp : Step m H (m.push p) (L2.upd H p (.lst vs)) := Step.push r _ hp
  refine ⟨by show (m.m ++ [p]).length = _; rw [List.length_append, List.length_append, r.len]; rfl, ?_, fun a ha z => ?_, fun a ha => ?_, fun j o e => ?_⟩
  · show (m.m ++ [p]).Nodup
    rw [List.nodup_append]
    exact ⟨r.nd, by simp, fun a ha b hb e => by rw [List.mem_singleton.mp hb] at e; exact r.notin hp (.inl (e ▸ ha))⟩
  · rcases List.mem_append.mp ha with w | w
    · exact r.dj a w z
    · rw [List.mem_singleton.mp w] at z
      exact r.notin hp (.inr z)
  · rw [sp.rsv a ha]; exact r.tr a ha
  · by_cases hj : j < h.length
    · rw [List.getElem?_append_left hj] at e
      obtain ⟨a, ea, q⟩ := r.ob j o e
      obtain ⟨z, e1⟩ := q.some
      exact ⟨a, sp.at ea, q.keep sp.mv (upd_ne (ne_of_none e1 hp))⟩
    · rw [List.getElem?_append_right (Nat.le_of_not_lt hj)] at e
      have e0 : j - h.length = 0 := by
        have := (List.getElem?_eq_some_iff.mp e).1
        simp at this; omega
      rw [e0] at e
      cases e
      refine ⟨p, ?_, vs, upd_same, rd.step sp⟩
      show (m.m ++ [p])[j]? = _
      rw [List.getElem?_append_right (by rw [r.len]; omega), r.len, e0]; rfl
theorem push_at {m : Lay} {p : Addr} {n : Nat} (h : m.m.length = n) : (m.push p).m[n]? = some p := by
  show (m.m ++ [p])[n]? = _
  rw [List.getElem?_append_right (by omega), h]; simp
def wLstM (w : WL) : W1 := fun ρ h k => w ρ h fun ds h1 => ds.length ≤ sizeLine ∧ k (.ref h1.length) (h1 ++ [.lst ds])
theorem de_lstM {es : List Expr} {w : WL} {pos} (h : DA X es w) : DE X (.List es pos) (wLstM w) := PE.imp (pe_lst h) fun σ H Q ⟨m, ρ, h, k, rs, rh, q, c⟩ =>
  ⟨m, ρ, h, _, rs, rh, q, fun ds h1 vs m1 H1 s1 rh1 rds ⟨z, q1⟩ => ⟨by rw [← rds.length]; exact z, fun p hp => by
    refine c (.ref h1.length) (h1 ++ [.lst ds]) (.ref p) (m1.push p) _ (s1.trans (Step.push rh1 _ hp)) (rh1.push hp rds) ?_ q1
    unfold RelD
    exact ⟨p, rfl, push_at rh1.len⟩⟩⟩
def wSetL : D → D → D → DH → (DH → Prop) → Prop := fun o i v h k => ∃ n ds j l, o = .ref n ∧ i = .int j ∧ h[n]? = some (.lst ds) ∧ ixN ds.length j = some l ∧ k (h.set n (.lst (ds.set l v)))
theorem RelDs.set {K : PySem.W.Frag} {m : Lay} {H : Hp} {d : D} {v : V} (r : RelD K m H d v) : ∀ {ds : List D} {vs : List V} (l : Nat), RelDs K m H ds vs → RelDs K m H (ds.set l d) (vs.set l v)
  | [], vs, l, h => by unfold RelDs at h; subst h; simp [RelDs]
  | e :: ds, vs, 0, h => by
    unfold RelDs at h
    obtain ⟨u, t, rfl, h1, h2⟩ := h
    simp only [List.set_cons_zero]
    unfold RelDs
    exact ⟨v, t, rfl, r, h2⟩
  | e :: ds, vs, l + 1, h => by
    unfold RelDs at h
    obtain ⟨u, t, rfl, h1, h2⟩ := h
    simp only [List.set_cons_succ]
    unfold RelDs
    exact ⟨u, _, rfl, h1, RelDs.set r l h2⟩
theorem set_listD : PSet X (rSetD X.K wSetL) := fun pins s σ H o i v ov iv u Q I ro ri rv ⟨m, h, do_, di, dv, k, rh, r1, r2, r3, ⟨n, ds, j, l, e1, e2, hn, hl, q⟩, f⟩ => by
  subst e1 e2
  unfold RelD at r1 r2
  obtain ⟨a, rfl, ha⟩ := r1
  subst r2
  obtain ⟨a', ea, vs, ev, rd⟩ := rh.ob n _ hn
  rw [ha] at ea; cases ea
  refine set_list pins s σ H _ _ v ov iv u Q I ro ri rv ⟨a, vs, j, l, rfl, rfl, ev, by rw [← rd.length]; exact hl, ?_⟩
  exact f _ m _ (Step.put rh _ (List.mem_of_getElem? ha)) (rh.put ha (rd.set r3 l)) q
def wGSub (o i : W1) (w : D → D → D → DH → (DH → Prop) → Prop) : WG := fun d ρ h k => o ρ h fun x h1 => i ρ h1 fun y h2 => w x y d h2 fun h3 => k ρ h3
theorem dg_sub {o i : Expr} {wo wi : W1} {w : D → D → D → DH → (DH → Prop) → Prop} {pos : Pos} (ho : DE X o wo) (hi : DE X i wi) (hs : PSet X (rSetD X.K w))
    (ha : ∀ v, assign (.Subscript o i pos) X.env v = (do
      let ov ← holding [v] (eval o X.env)
      let iv ← holding [v, ov] (eval i X.env)
      standAt pos
      holding [v, ov, iv] (setItem ov iv v)
      release [v, ov, iv] []) := by intro _; rfl) : DG X (.Subscript o i pos) (wGSub wo wi w) :=
  PG.imp (pg_sub ho hi hs ha) fun v σ H Q ⟨m, ρ, h, d, k, rs, rh, rd, q, f⟩ => ⟨m, ρ, h, _, rs, rh, q, fun x h1 vx m1 H1 s1 rh1 rx q1 => ⟨m1, ρ, h1, _, rs.step s1, rh1, q1, fun y h2 vy m2 H2 s2 rh2 ry q2 =>
    ⟨m2, h2, x, y, d, _, rh2, rx.step s2, ry, (rd.step s1).step s2, q2, fun h3 m3 H3 s3 rh3 q3 => f ρ h3 σ m3 H3 ((s1.trans s2).trans s3) (((rs.step s1).step s2).step s3) rh3 q3⟩⟩⟩
end
end Vf

namespace Vf
open PySem PySem.Spec PyProof.Rows L2

/-! targets that are names or tuples of names -/
inductive Tg where
  | n (i : Nat) | t (l : List Tg)
mutual
def tgG (K : PySem.W.Frag) : Tg → TG
  | .n i => gName i
  | .t l => gTup K l.length (tgGs K l)
def tgGs (K : PySem.W.Frag) : List Tg → TGs
  | [] => gNil
  | a :: r => gCons (tgG K a) (tgGs K r)
end
mutual
def tgD : Tg → D → Rho → Option Rho
  | .n i, d, ρ => some (ρ.set i (some d))
  | .t l, d, ρ => match d with
    | .tup ds => tgDs l ds ρ
    | _ => none
def tgDs : List Tg → List D → Rho → Option Rho
  | [], [], ρ => some ρ
  | a :: r, d :: ds, ρ => (tgD a d ρ).bind fun ρ1 => tgDs r ds ρ1
  | _, _, _ => none
end
mutual
def tgS : Tg → List Nat
  | .n i => [i]
  | .t l => tgSs l
def tgSs : List Tg → List Nat
  | [] => []
  | a :: r => tgS a ++ tgSs r
end
theorem wipe_set {σ : L2.St} {i : Nat} {x : Option V} : ∀ {vs : List Nat}, i ∈ vs → wipe (σ.set i x) vs = wipe σ vs
  | [], h => absurd h (by simp)
  | v :: vs, h => by
    unfold wipe
    by_cases hv : i ∈ vs
    · rw [wipe_set hv]
    · have e : i = v := by
        rcases List.mem_cons.mp h with z | z
        · exact z
        · exact absurd z hv
      subst e
      have : ∀ (us : List Nat), i ∉ us → wipe (σ.set i x) us = (wipe σ us).set i x := by
        intro us
        induction us with
        | nil => intro _; rfl
        | cons u us ih =>
          intro hu
          unfold wipe
          rw [ih (fun z => hu (List.mem_cons_of_mem _ z)), List.set_comm _ _ (fun (z : i = u) => hu (by rw [z]; exact List.mem_cons_self))]
      rw [this vs hv, List.set_set]
theorem tgDs_len : ∀ {l : List Tg} {ds : List D} {ρ ρ' : Rho}, tgDs l ds ρ = some ρ' → ds.length = l.length
  | [], [], _, _, _ => rfl
  | [], _ :: _, _, _, h => by simp [tgDs] at h
  | _ :: _, [], _, _, h => by simp [tgDs] at h
  | a :: r, d :: ds, ρ, ρ', h => by
    unfold tgDs at h
    cases e : tgD a d ρ with
    | none => rw [e] at h; cases h
    | some ρ1 => rw [e] at h; simp [tgDs_len (l := r) (ds := ds) (ρ := ρ1) (ρ' := ρ') h]
mutual
theorem tg_ok {K : PySem.W.Frag} {m : Lay} {H : Hp} : ∀ (T : Tg) {d : D} {v : V} {ρ ρ' : Rho} {σ : L2.St} {Q : L2.St → Hp → Prop}, RelD K m H d v → RelS K m H σ ρ → tgD T d ρ = some ρ' →
    (∀ σ', RelS K m H σ' ρ' → (∀ vs, (∀ i ∈ tgS T, i ∈ vs) → wipe σ' vs = wipe σ vs) → Q σ' H) → tgG K T v σ H Q
  | .n i, d, v, ρ, ρ', σ, Q, rd, rs, e, q => by
    unfold tgD at e; cases e
    unfold tgG
    exact q _ (rs.set i rd) fun vs hv => wipe_set (hv i (by simp [tgS]))
  | .t l, d, v, ρ, ρ', σ, Q, rd, rs, e, q => by
    unfold tgD at e
    cases d with
    | tup ds =>
      unfold RelD at rd
      obtain ⟨a, vs, rfl, ta, r⟩ := rd
      unfold tgG
      exact ⟨a, vs, rfl, ta.sq, by rw [← r.length]; exact tgDs_len e, tgs_ok l r rs e fun σ' rs' hw => q σ' rs' fun us hu => hw us (by simpa [tgS] using hu)⟩
    | non | bl | int | str | lst | rol | ref | sx | dic | kd => cases e
theorem tgs_ok {K : PySem.W.Frag} {m : Lay} {H : Hp} : ∀ (l : List Tg) {ds : List D} {vs : List V} {ρ ρ' : Rho} {σ : L2.St} {Q : L2.St → Hp → Prop}, RelDs K m H ds vs → RelS K m H σ ρ → tgDs l ds ρ = some ρ' →
    (∀ σ', RelS K m H σ' ρ' → (∀ us, (∀ i ∈ tgSs l, i ∈ us) → wipe σ' us = wipe σ us) → Q σ' H) → tgGs K l vs σ H Q
  | [], ds, vs, ρ, ρ', σ, Q, rd, rs, e, q => by
    cases ds with
    | nil =>
      unfold tgDs at e; cases e
      unfold RelDs at rd; subst rd
      unfold tgGs
      exact ⟨rfl, q σ rs fun _ _ => rfl⟩
    | cons => simp [tgDs] at e
  | a :: r, ds, vs, ρ, ρ', σ, Q, rd, rs, e, q => by
    cases ds with
    | nil => simp [tgDs] at e
    | cons d ds =>
      unfold tgDs at e
      cases e1 : tgD a d ρ with
      | none => rw [e1] at e; cases e
      | some ρ1 =>
        rw [e1] at e
        unfold RelDs at rd
        obtain ⟨v, t, rfl, r1, r2⟩ := rd
        unfold tgGs
        refine ⟨v, t, rfl, tg_ok a r1 rs e1 fun σ1 rs1 w1 => tgs_ok r r2 rs1 e fun σ2 rs2 w2 => q σ2 rs2 fun us hu => ?_⟩
        have ha : ∀ i ∈ tgS a, i ∈ us := fun i hi => hu i (by unfold tgSs; exact List.mem_append_left _ hi)
        have hb : ∀ i ∈ tgSs r, i ∈ us := fun i hi => hu i (by unfold tgSs; exact List.mem_append_right _ hi)
        rw [w2 us hb, w1 us ha]
end
section
variable {X : Cx}
theorem pg_n {x : Str} {pos : Pos} (i : Nat) (hN : X.N.Nodup) (hi : X.N[i]? = some x := by rfl) (hx : Loc X.env.scope x := by first | exact Or.inl rfl | exact Or.inr rfl)
    (hf : X.fn x = true ∨ X.env.scope.names.lookup x = some .local := by first | exact .inl rfl | exact .inr rfl) : PG X (.Name x pos) (tgG X.K (.n i)) := by
  unfold tgG; exact pg_name hN hi hx hf
theorem pgs_n : PGs X [] (tgGs X.K []) := by unfold tgGs; exact pgs_nil
theorem pgs_c {e : Expr} {es : List Expr} {a : Tg} {r : List Tg} (h1 : PG X e (tgG X.K a)) (h2 : PGs X es (tgGs X.K r)) (hs : (assignEach (e :: es) X.env).map (·.2) = assign e X.env :: (assignEach es X.env).map (·.2) := by rfl) : PGs X (e :: es) (tgGs X.K (a :: r)) := by
  unfold tgGs; exact pgs_cons h1 h2 hs
theorem pg_t {es : List Expr} {k : Nat} {l : List Tg} {pos : Pos} (hc : X.calm = true) (h : PGs X es (tgGs X.K l)) (hn : (assignEach es X.env).length = l.length := by rfl) (hst : (assignEach es X.env).findIdx? (·.1) = none := by rfl) : PG X (.Tuple es k pos) (tgG X.K (.t l)) := by
  unfold tgG; exact pg_tup hc h hn hst
end

/-! what is walked -/
structure DIt where
  its : List D
  ok : DH → Prop
structure ItOk (K : PySem.W.Frag) (m0 : Lay) (H0 : Hp) (it : DIt) (J : It) : Prop where
  ex : ∃ (G : Hp → Prop) (Y : Nat → Hp → V → Hp → Prop), Walk J it.its.length G Y ∧ (∀ m H h, Mv m0 H0 m H → RelH K m H h → it.ok h → G H) ∧
    ∀ i m H x H' h, Mv m0 H0 m H → RelH K m H h → it.ok h → Y i H x H' → ∃ d, it.its[i]? = some d ∧ Step m H m H' ∧ RelH K m H' h ∧ RelD K m H' d x
abbrev WI := Rho → DH → (DIt → DH → Prop) → Prop
def tDI (K : PySem.W.Frag) (w : WI) : TI := fun σ H R => ∃ (m : Lay) (ρ : Rho) (h : DH) (k : DIt → DH → Prop), RelS K m H σ ρ ∧ RelH K m H h ∧ w ρ h k ∧
  ∀ it h' m' H' J, Step m H m' H' → RelH K m' H' h' → ItOk K m' H' it J → k it h' → R J H'
def DI (X : Cx) (tg e : Expr) (w : WI) : Prop := PI X tg e (tDI X.K w)
theorem PI.imp {X : Cx} {tg e : Expr} {t t' : TI} (h : PI X tg e t) (i : ∀ σ H Q, t' σ H Q → t σ H Q) : PI X tg e t' := ⟨fun pins s σ H Q I q => h.run pins s σ H Q I (i _ _ _ q)⟩

def Items : D → DH → DIt → Prop
  | .tup ds, _, it => it = ⟨ds, fun _ => True⟩
  | .lst ds, _, it => it = ⟨ds, fun _ => True⟩
  | .rol ds, _, it => it = ⟨ds, fun _ => True⟩
  | .str x, _, it => it = ⟨x.cps.toList.map fun c => .str ⟨#[c]⟩, fun _ => True⟩
  | .ref n, h, it => ∃ ds, h[n]? = some (.lst ds) ∧ it = ⟨ds, fun h' => h'[n]? = some (.lst ds)⟩
  | _, _, _ => False
theorem RelDs.at {K : PySem.W.Frag} {m : Lay} {H : Hp} : ∀ {ds : List D} {vs : List V} {i : Nat} {v : V}, RelDs K m H ds vs → vs[i]? = some v → ∃ d, ds[i]? = some d ∧ RelD K m H d v
  | [], vs, i, v, r, e => by unfold RelDs at r; subst r; simp at e
  | d :: ds, vs, 0, v, r, e => by
    unfold RelDs at r
    obtain ⟨u, t, rfl, h1, h2⟩ := r
    cases e
    exact ⟨d, rfl, h1⟩
  | d :: ds, vs, i + 1, v, r, e => by
    unfold RelDs at r
    obtain ⟨u, t, rfl, h1, h2⟩ := r
    exact RelDs.at (i := i) h2 (by simpa using e)
theorem RelDs.atD {K : PySem.W.Frag} {m : Lay} {H : Hp} : ∀ {ds : List D} {vs : List V} {i : Nat} {d : D}, RelDs K m H ds vs → ds[i]? = some d → ∃ v, vs[i]? = some v ∧ RelD K m H d v
  | [], vs, i, d, r, e => by simp at e
  | d :: ds, vs, 0, _, r, e => by
    unfold RelDs at r
    obtain ⟨u, t, rfl, h1, h2⟩ := r
    cases e
    exact ⟨u, rfl, h1⟩
  | d :: ds, vs, i + 1, _, r, e => by
    unfold RelDs at r
    obtain ⟨u, t, rfl, h1, h2⟩ := r
    obtain ⟨v, ev, rv⟩ := RelDs.atD (i := i) h2 (by simpa using e)
    exact ⟨v, by simpa using ev, rv⟩
theorem itok_tup {K : PySem.W.Frag} {m : Lay} {H : Hp} {a : Addr} {vs : List V} {ds : List D} (ta : TupAt K m H a vs) (r : RelDs K m H ds vs) : ItOk K m H ⟨ds, fun _ => True⟩ (Itt K a) := by
  refine ⟨⟨_, _, by rw [show ds.length = vs.length from r.length]; exact walk_tup, fun m1 H1 h1 s1 _ _ => (ta.mv s1).sq, fun i m1 H1 x H2 h1 s1 rh1 _ y => ?_⟩⟩
  obtain ⟨rfl, e⟩ := y
  obtain ⟨d, ed, rd⟩ := (r.mv s1).at e
  exact ⟨d, ed, Step.refl _ _, rh1, rd⟩
theorem itok_lst {K : PySem.W.Frag} {m : Lay} {H : Hp} {a : Addr} {vs : List V} {ds : List D} (ta : LstAt K m H a vs) (r : RelDs K m H ds vs) : ItOk K m H ⟨ds, fun _ => True⟩ (Itl K a) := by
  refine ⟨⟨_, _, by rw [show ds.length = vs.length from r.length]; exact walk_list, fun m1 H1 h1 s1 _ _ => (ta.mv s1).sq, fun i m1 H1 x H2 h1 s1 rh1 _ y => ?_⟩⟩
  obtain ⟨rfl, e⟩ := y
  obtain ⟨d, ed, rd⟩ := (r.mv s1).at e
  exact ⟨d, ed, Step.refl _ _, rh1, rd⟩
theorem itok_rol {K : PySem.W.Frag} {m : Lay} {H : Hp} {a : Addr} {vs : List V} {ds : List D} (ta : RolAt K m H a vs) (r : RelDs K m H ds vs) : ItOk K m H ⟨ds, fun _ => True⟩ (Itl K a) := by
  refine ⟨⟨_, _, by rw [show ds.length = vs.length from r.length]; exact walk_list, fun m1 H1 h1 s1 _ _ => (ta.mv s1).sq, fun i m1 H1 x H2 h1 s1 rh1 _ y => ?_⟩⟩
  obtain ⟨rfl, e⟩ := y
  obtain ⟨d, ed, rd⟩ := (r.mv s1).at e
  exact ⟨d, ed, Step.refl _ _, rh1, rd⟩
theorem itok_str {K : PySem.W.Frag} {m : Lay} {H : Hp} {x : Str} : ItOk K m H ⟨x.cps.toList.map fun c => .str ⟨#[c]⟩, fun _ => True⟩ (Its x) := by
  refine ⟨⟨_, _, by rw [show (x.cps.toList.map fun c => (D.str ⟨#[c]⟩)).length = x.cps.size by simp]; exact walk_str, fun _ _ _ _ _ _ => trivial, fun i m1 H1 v H2 h1 s1 rh1 _ y => ?_⟩⟩
  obtain ⟨rfl, c, ec, rfl⟩ := y
  exact ⟨.str ⟨#[c]⟩, by simp [ec], Step.refl _ _, rh1, by unfold RelD; rfl⟩
theorem itok_ref {K : PySem.W.Frag} {m : Lay} {H : Hp} {n : Nat} {a : Addr} {ds : List D} (ha : m.m[n]? = some a) : ItOk K m H ⟨ds, fun h' => h'[n]? = some (.lst ds)⟩ (Itl K a) := by
  have at1 : ∀ m1 H1 h1, Mv m H m1 H1 → RelH K m1 H1 h1 → h1[n]? = some (.lst ds) → ∃ vs, SqL K H1 a vs ∧ RelDs K m1 H1 ds vs := fun m1 H1 h1 s1 rh1 e => by
    obtain ⟨b, eb, vs, ev, rd⟩ := rh1.ob n _ e
    rw [s1.at ha] at eb; cases eb
    exact ⟨vs, SqL.of ev, rd⟩
  refine ⟨⟨fun H1 => ∃ vs, SqL K H1 a vs ∧ vs.length = ds.length, fun i H1 x H2 => H2 = H1 ∧ ∀ vs, SqL K H1 a vs → vs[i]? = some x, ⟨?_, ?_, ?_⟩, ?_, ?_⟩⟩
  · rintro i H1 hi ⟨vs, hq, hl⟩
    exact ⟨vs, vs[i], hq, by simp [show i < vs.length by rw [hl]; exact hi]⟩
  · rintro H1 ⟨vs, hq, hl⟩
    exact ⟨vs, hq, by rw [hl]; exact Nat.le_refl _⟩
  · rintro i H1 x H2 hi ⟨vs, hq, hl⟩ y
    exact y
  · intro m1 H1 h1 s1 rh1 e
    obtain ⟨vs, hq, rd⟩ := at1 m1 H1 h1 s1 rh1 e
    exact ⟨vs, hq, rd.length.symm⟩
  · rintro i m1 H1 x H2 h1 s1 rh1 e ⟨rfl, y⟩
    obtain ⟨vs, hq, rd⟩ := at1 m1 _ h1 s1 rh1 e
    obtain ⟨d, ed, r⟩ := rd.at (y vs hq)
    exact ⟨d, ed, Step.refl _ _, rh1, r⟩

section
variable {X : Cx} {tg : Expr}
/-- iter(v) of a value that is known -/
theorem iterV {pins : List (Addr × Obj)} {s : Shared} {σ : L2.St} {H : Hp} {v : V} {u : Value} {R : It → Hp → Prop} (I : Inv X pins σ H s) (rv : RelV v u)
    (q : (∃ a xs, v = .ref a ∧ SqL X.K H a xs ∧ R (Itl X.K a) H) ∨ (∃ a xs, v = .ref a ∧ SqT X.K H a xs ∧ R (Itt X.K a) H) ∨ ∃ x, v = .str x ∧ R (Its x) H) :
    wpAny (model X.prog X.w) X.A (pyIter u) (PIE X pins σ tg R) X.xe s := by
  have one : ∀ b, b ∈ [s.heap.objs.size] → FpOk X pins H b := fun b hb => by
    rw [List.mem_singleton.mp hb]
    exact I.fpOk (Nat.le_refl _) (I.hok.fresh (Nat.le_refl _))
  rcases q with ⟨a, xs, rfl, hq, q⟩ | ⟨a, xs, rfl, hq, q⟩ | ⟨x, rfl, q⟩
  · cases rv
    obtain ⟨its, r, p, _⟩ := I.list hq
    exact wpAny_pyIter_list p.isList ⟨_, [_], _, _, H, rfl, I.kept (t' := s.toks) (fun b o e => Heap.get?_push_of_some _ e), turn_list a _, ⟨_, Heap.get?_push_size _ rfl, rfl, rfl⟩, one, q⟩
  · cases rv
    obtain ⟨its, r, p, _⟩ := I.tuple hq
    exact wpAny_pyIter_tuple p ⟨_, [_], _, _, H, rfl, I.kept (t' := s.toks) (fun b o e => Heap.get?_push_of_some _ e), turn_tuple a _, ⟨_, Heap.get?_push_size _ rfl, rfl, rfl⟩, one, q⟩
  · obtain ⟨t, rfl⟩ := rv
    by_cases ha : x.cps.all (· < 128) = true
    · exact wpAny_pyIter_ascii ha (pi_one (tk := s.toks) I _ (turn_str _ x t "str_ascii_iterator" (.inl rfl)) ⟨_, Heap.get?_push_size _ rfl, rfl, rfl⟩ q)
    · exact wpAny_pyIter_wide (by simpa using ha) (pi_one (tk := s.toks) I _ (turn_str _ x t "str_iterator" (.inr rfl)) ⟨_, Heap.get?_push_size _ rfl, rfl, rfl⟩ q)
def wIter (w : W1) : WI := fun ρ h k => w ρ h fun d h1 => ∃ it, Items d h1 it ∧ k it h1
theorem di_seq {e : Expr} {w : W1} (he : DE X e w) : DI X tg e (wIter w) := by
  refine ⟨fun pins s σ H R I ⟨m, ρ, h, k, rs, rh, q, f⟩ => ?_⟩
  refine thn (he.run pins s σ H (fun v H1 => ∃ d h1 m1 it, Step m H m1 H1 ∧ RelH X.K m1 H1 h1 ∧ RelD X.K m1 H1 d v ∧ Items d h1 it ∧ k it h1) I ⟨m, ρ, h, _, rs, rh, q, fun d h1 v m1 H1 s1 rh1 rd ⟨it, i1, q1⟩ => ⟨d, h1, m1, it, s1, rh1, rd, i1, q1⟩⟩) fun u s1 h1 => ?_
  obtain ⟨v, H1, I1, rv, d, h1, m1, it, st, rh1, rd, i1, q1⟩ := h1
  refine iterV I1 rv ?_
  cases d with
  | tup ds =>
    unfold RelD at rd
    obtain ⟨a, vs, rfl, ta, r⟩ := rd
    have i2 : it = _ := i1; subst i2
    exact .inr (.inl ⟨a, vs, rfl, ta.sq, f _ h1 m1 H1 _ st rh1 (itok_tup ta r) q1⟩)
  | lst ds =>
    unfold RelD at rd
    obtain ⟨a, vs, rfl, ta, r⟩ := rd
    have i2 : it = _ := i1; subst i2
    exact .inl ⟨a, vs, rfl, ta.sq, f _ h1 m1 H1 _ st rh1 (itok_lst ta r) q1⟩
  | rol ds =>
    unfold RelD at rd
    obtain ⟨a, vs, rfl, ta, r⟩ := rd
    have i2 : it = _ := i1; subst i2
    exact .inl ⟨a, vs, rfl, ta.sq, f _ h1 m1 H1 _ st rh1 (itok_rol ta r) q1⟩
  | str x =>
    unfold RelD at rd
    subst rd
    have i2 : it = _ := i1; subst i2
    exact .inr (.inr ⟨x, rfl, f _ h1 m1 H1 _ st rh1 itok_str q1⟩)
  | ref n =>
    unfold RelD at rd
    obtain ⟨a, rfl, ha⟩ := rd
    obtain ⟨ds, en, rfl⟩ := i1
    obtain ⟨b, eb, vs, ev, r⟩ := rh1.ob n _ en
    rw [ha] at eb; cases eb
    exact .inl ⟨a, vs, rfl, SqL.of ev, f _ h1 m1 H1 _ st rh1 (itok_ref ha) q1⟩
  | non => exact False.elim i1
  | bl => exact False.elim i1
  | int => exact False.elim i1
  | sx => exact False.elim i1
  | dic => exact False.elim i1
  | kd => exact False.elim i1

def dints (lo : Int) (n : Nat) : List D := (List.range n).map fun i => .int (lo + (i : Nat))
theorem itok_range {K : PySem.W.Frag} {m : Lay} {H : Hp} {lo : Int} {n : Nat} : ItOk K m H ⟨dints lo n, fun _ => True⟩ (Itr lo n) := by
  refine ⟨⟨_, _, by rw [show (dints lo n).length = n by simp [dints]]; exact walk_range.mono (fun _ h => h) (Y' := fun i H x H' => i < n ∧ H' = H ∧ x = .int (lo + i)) (fun i H x H' hi _ ⟨e1, e2⟩ => ⟨hi, e1, e2⟩), fun _ _ _ _ _ _ => trivial, fun i m1 H1 v H2 h1 s1 rh1 _ y => ?_⟩⟩
  obtain ⟨hi, rfl, rfl⟩ := y
  exact ⟨.int (lo + i), by simp [dints, hi], Step.refl _ _, rh1, by unfold RelD; rfl⟩
def wRange1 (w : WL) : WI := fun ρ h k => w ρ h fun ds h1 => ∃ j : Int, ds = [.int j] ∧ (-(2 ^ 62) ≤ j ∧ j < 2 ^ 62) ∧ k ⟨dints 0 j.toNat, fun _ => True⟩ h1
theorem RelDs.one {K : PySem.W.Frag} {m : Lay} {H : Hp} {a : D} {vs : List V} (r : RelDs K m H [a] vs) : ∃ u, vs = [u] ∧ RelD K m H a u := by
  unfold RelDs RelDs at r
  obtain ⟨u, r1, rfl, h1, rfl⟩ := r
  exact ⟨u, rfl, h1⟩
theorem di_range1 {a : Expr} {w : WL} {p pos : Pos} (hg : Gl X "range") (hm : X.mg "range" = none) (ha : DA X [a] w) (hs : starEach [a] X.env = [(false, eval a X.env)] := by rfl) : DI X tg (.Call (.Name "range" p) [a] [] pos) (wRange1 w) :=
  PI.imp (pi_range1 hg hm ha hs) fun σ H R ⟨m, ρ, h, k, rs, rh, q, f⟩ => ⟨m, ρ, h, _, rs, rh, q, fun ds h1 vs m1 H1 s1 rh1 rd ⟨j, e, ⟨l1, l2⟩, q1⟩ => by
    subst e
    obtain ⟨u, rfl, r1⟩ := rd.one
    unfold RelD at r1; subst r1
    exact ⟨j, rfl, l1, l2, f _ h1 m1 H1 _ s1 rh1 itok_range q1⟩⟩
def wRange2 (w : WL) : WI := fun ρ h k => w ρ h fun ds h1 => ∃ i j : Int, ds = [.int i, .int j] ∧ (-(2 ^ 62) ≤ i ∧ i < 2 ^ 62 ∧ -(2 ^ 62) ≤ j ∧ j < 2 ^ 62) ∧ k ⟨dints i (j - i).toNat, fun _ => True⟩ h1
theorem di_range2 {a b : Expr} {w : WL} {p pos : Pos} (hg : Gl X "range") (hm : X.mg "range" = none) (ha : DA X [a, b] w) (hs : starEach [a, b] X.env = [(false, eval a X.env), (false, eval b X.env)] := by rfl) (hs2 : starEach [b] X.env = [(false, eval b X.env)] := by rfl) : DI X tg (.Call (.Name "range" p) [a, b] [] pos) (wRange2 w) :=
  PI.imp (pi_range2 hg hm ha hs hs2) fun σ H R ⟨m, ρ, h, k, rs, rh, q, f⟩ => ⟨m, ρ, h, _, rs, rh, q, fun ds h1 vs m1 H1 s1 rh1 rd ⟨i, j, e, l, q1⟩ => by
    subst e
    obtain ⟨u, v, rfl, r1, r2⟩ := rd.two
    unfold RelD at r1 r2; subst r1 r2
    exact ⟨i, j, rfl, l, f _ h1 m1 H1 _ s1 rh1 itok_range q1⟩⟩

/-! for -/
def forGo (T : Tg) (b : WS) (ok : DH → Prop) (e : DEn) : List D → Rho → DH → Prop
  | [], ρ, h => ok h ∧ e.nx ρ h
  | x :: xs, ρ, h => ok h ∧ ∃ ρ1, tgD T x ρ = some ρ1 ∧ b { e with nx := forGo T b ok e xs, ct := forGo T b ok e xs, bk := e.nx } ρ1 h
def wFor (wi : WI) (T : Tg) (b : WS) : WS := fun e ρ h => wi ρ h fun it h1 => forGo T b it.ok e it.its ρ h1
theorem ds_for {iter : Expr} {body : List Stmt} {wi : WI} {T : Tg} {b : WS} {pos : Pos} (hp : PassesOwn (model X.prog X.w) X.A X.env X.xe) (hc : X.calm = true) (hi : DI X tg iter wi) (hg : PG X tg (tgG X.K T)) (hb : DSs X body b)
    (hs : ∀ x, foldedSetIterable iter X.env x = pure x := by intro _; rfl) : DS X (.For tg iter body [] pos) (wFor wi T b) :=
  PS.imp (ps_for hp hc hi hg hb hs) fun D σ H ⟨m, ρ, h, e, rs, rh, q, f⟩ => ⟨m, ρ, h, _, rs, rh, q, fun it h1 m1 H1 J s1 rh1 ⟨G, Y, wk, hG, hY⟩ q1 => by
    refine for_it wk (fun i σ2 H2 => ∃ m2 ρ2 h2, Step m1 H1 m2 H2 ∧ RelS X.K m2 H2 σ2 ρ2 ∧ RelH X.K m2 H2 h2 ∧ forGo T b it.ok e (it.its.drop i) ρ2 h2) ⟨m1, ρ, h1, Step.refl _ _, rs.step s1, rh1, by simpa using q1⟩ ?_ ?_ ?_
    · rintro i σ2 H2 hi2 ⟨m2, ρ2, h2, s2, rs2, rh2, q2⟩
      refine hG m2 H2 h2 s2.mv rh2 ?_
      cases hd : it.its.drop i <;> (rw [hd] at q2; exact q2.1)
    · rintro i x σ2 H2 H3 hi2 ⟨m2, ρ2, h2, s2, rs2, rh2, q2⟩ y
      have hd : it.its.drop i = it.its[i] :: it.its.drop (i + 1) := List.drop_eq_getElem_cons hi2
      rw [hd] at q2
      obtain ⟨ok2, ρ3, e3, q3⟩ := q2
      obtain ⟨d, ed, st, rh3, rd⟩ := hY i m2 H2 x H3 h2 s2.mv rh2 ok2 y
      have e4 : d = it.its[i] := by simpa [hi2] using ed.symm
      subst e4
      refine tg_ok T rd (rs2.step st) e3 fun σ4 rs4 _ => ⟨m2, ρ3, h2, _, rs4, rh3, q3, ?_⟩
      have s3 : Step m1 H1 m2 H3 := s2.trans st
      have s03 : Step m H m2 H3 := s1.trans s3
      exact ⟨fun ρ5 h5 σ5 m5 H5 s5 rs5 rh5 q5 => ⟨m5, ρ5, h5, s3.trans s5, rs5, rh5, q5⟩, (f.step s03).rt, (f.step s03).nx, fun ρ5 h5 σ5 m5 H5 s5 rs5 rh5 q5 => ⟨m5, ρ5, h5, s3.trans s5, rs5, rh5, q5⟩⟩
    · rintro σ2 H2 ⟨m2, ρ2, h2, s2, rs2, rh2, q2⟩
      rw [List.drop_length] at q2
      exact f.nx ρ2 h2 σ2 m2 H2 (s1.trans s2) rs2 rh2 q2.2⟩

/-! list comprehensions -/
def wipeD (ρ : Rho) : List Nat → Rho
  | [] => ρ
  | v :: vs => (wipeD ρ vs).set v none
theorem RelS.wipe {K : PySem.W.Frag} {m : Lay} {H : Hp} {σ : L2.St} {ρ : Rho} (r : RelS K m H σ ρ) : ∀ vs : List Nat, RelS K m H (L2.wipe σ vs) (wipeD ρ vs)
  | [] => r
  | v :: vs => by
    have q := RelS.wipe r vs
    unfold L2.wipe wipeD
    refine ⟨by rw [List.length_set, List.length_set]; exact q.len, fun i d e => ?_⟩
    by_cases hv : v = i
    · subst hv
      have hl : v < (wipeD ρ vs).length := by
        have := (List.getElem?_eq_some_iff.mp e).1
        rwa [List.length_set] at this
      rw [List.getElem?_set_self hl] at e
      cases e
    · rw [List.getElem?_set_ne hv] at e ⊢
      exact q.sl i d e
def lcGo (T : Tg) (t : WB) (e : W1) (ok : DH → Prop) (ρ : Rho) (fin : List D → DH → Prop) : List D → List D → DH → Prop
  | [], acc, h => ok h ∧ fin acc h
  | x :: xs, acc, h => ok h ∧ ∃ ρ1, tgD T x ρ = some ρ1 ∧ t ρ1 h fun b h1 => if b = true then e ρ1 h1 fun y h2 => acc.length < sizeLine ∧ lcGo T t e ok ρ fin xs (acc ++ [y]) h2 else lcGo T t e ok ρ fin xs acc h1
def wLc (wi : WI) (T : Tg) (t : WB) (e : W1) (vs : List Nat) : W1 := fun ρ h k => wi ρ h fun it h1 => lcGo T t e it.ok (wipeD ρ vs) (fun acc h2 => k (.lst acc) h2) it.its [] h1
def wLcM (wi : WI) (T : Tg) (t : WB) (e : W1) (vs : List Nat) : W1 := fun ρ h k => wi ρ h fun it h1 => lcGo T t e it.ok (wipeD ρ vs) (fun acc h2 => k (.ref h2.length) (h2 ++ [.lst acc])) it.its [] h1
def wYes : WB := fun _ h k => k true h
theorem RelDs.snoc {K : PySem.W.Frag} {m : Lay} {H : Hp} {d : D} {v : V} (r : RelD K m H d v) : ∀ {ds : List D} {vs : List V}, RelDs K m H ds vs → RelDs K m H (ds ++ [d]) (vs ++ [v])
  | [], vs, h => by unfold RelDs at h; subst h; simp only [List.nil_append]; unfold RelDs RelDs; exact ⟨v, [], rfl, r, rfl⟩
  | e :: ds, vs, h => by
    unfold RelDs at h
    obtain ⟨u, t, rfl, h1, h2⟩ := h
    simp only [List.cons_append]
    unfold RelDs
    exact ⟨u, _, rfl, h1, RelDs.snoc r h2⟩
/-- a list that is put aside grows -/
theorem Mv.aside {m : Lay} {H : Hp} {p : Addr} (o : HO) (hp : p ∈ m.o) : Mv m H m (L2.upd H p o) :=
  ⟨⟨[], by simp⟩, fun b h n => absurd h n, fun b u n e => by rw [upd_ne (fun (z : b = p) => n (.inr (by rw [z]; exact hp)))]; exact e⟩
theorem RelH.aside {K : PySem.W.Frag} {m : Lay} {H : Hp} {h : DH} (r : RelH K m H h) {p : Addr} (o : HO) (hp : p ∈ m.o) (nt : ∀ vs, o ≠ HO.tup vs := by intro vs z; cases z) : RelH K m (L2.upd H p o) h := by
  refine ⟨r.len, r.nd, r.dj, fun a ha => ?_, fun i u e => ?_⟩
  · by_cases z : a = p
    · exact ⟨o, by rw [z]; exact upd_same, nt⟩
    · rw [upd_ne z]; exact r.tr a ha
  · obtain ⟨a, ea, q⟩ := r.ob i u e
    refine ⟨a, ea, ?_⟩
    have hne : a ≠ p := fun z => r.dj a (List.mem_of_getElem? ea) (z ▸ hp)
    exact q.keep (Mv.aside o hp) (upd_ne hne)
def Lay.put (m : Lay) (p : Addr) : Lay := ⟨m.m, p :: m.o⟩
theorem Mv.put {m : Lay} {H : Hp} {p : Addr} (o : HO) (hp : H p = none) : Mv m H (m.put p) (L2.upd H p o) :=
  ⟨⟨[], by simp [Lay.put]⟩, fun b h n => by
    rcases h with h | h
    · exact absurd (.inl h) n
    · rcases List.mem_cons.mp h with z | z
      · rw [z]; exact hp
      · exact absurd (.inr z) n, fun b u n e => by rw [upd_ne (ne_of_none e hp)]; exact e⟩
theorem RelH.put1 {K : PySem.W.Frag} {m : Lay} {H : Hp} {h : DH} (r : RelH K m H h) {p : Addr} (o : HO) (hp : H p = none) (nt : ∀ vs, o ≠ HO.tup vs := by intro vs z; cases z) : RelH K (m.put p) (L2.upd H p o) h := by
  refine ⟨r.len, r.nd, fun a ha z => ?_, fun a ha => ?_, fun i u e => ?_⟩
  · rcases List.mem_cons.mp z with z | z
    · exact r.notin hp (.inl (z ▸ ha))
    · exact r.dj a ha z
  · rcases List.mem_cons.mp ha with z | z
    · exact ⟨o, by rw [z]; exact upd_same, nt⟩
    · obtain ⟨u, e, nu⟩ := r.tr a z
      exact ⟨u, by rw [upd_ne (ne_of_none e hp)]; exact e, nu⟩
  · obtain ⟨a, ea, q⟩ := r.ob i u e
    obtain ⟨z, e1⟩ := q.some
    exact ⟨a, ea, q.keep (Mv.put o hp) (upd_ne (ne_of_none e1 hp))⟩
/-- .. and is taken back -/
theorem Mv.back {m : Lay} {H : Hp} {o : List Addr} (h : ∀ a ∈ o, a ∈ m.o) : Mv m H ⟨m.m, o⟩ H :=
  ⟨⟨[], by simp⟩, fun b z n => by
    rcases z with z | z
    · exact absurd (.inl z) n
    · exact absurd (.inr (h b z)) n, fun b u n e => e⟩
theorem RelH.back {K : PySem.W.Frag} {m : Lay} {H : Hp} {h : DH} (r : RelH K m H h) {o : List Addr} (ho : ∀ a ∈ o, a ∈ m.o) : RelH K ⟨m.m, o⟩ H h := by
  refine ⟨r.len, r.nd, fun a ha z => r.dj a ha (ho a z), fun a ha => r.tr a (ho a ha), fun i u e => ?_⟩
  obtain ⟨a, ea, q⟩ := r.ob i u e
  exact ⟨a, ea, q.keep (Mv.back ho) rfl⟩
theorem wipe_wipe (σ : L2.St) (us : List Nat) : L2.wipe (L2.wipe σ us) us = L2.wipe σ us := by
  have gen : ∀ ws : List Nat, (∀ i ∈ ws, i ∈ us) → L2.wipe (L2.wipe σ us) ws = L2.wipe σ us := by
    intro ws
    induction ws with
    | nil => intro _; rfl
    | cons w ws ih =>
      intro hw2
      show (L2.wipe (L2.wipe σ us) ws).set w none = L2.wipe σ us
      rw [ih (fun i hi => hw2 i (List.mem_cons_of_mem _ hi))]
      have hmem := hw2 w List.mem_cons_self
      apply List.ext_getElem?
      intro j
      by_cases hj : w = j
      · subst hj
        by_cases hlt : w < (L2.wipe σ us).length
        · rw [List.getElem?_set_self hlt]
          cases hx : (L2.wipe σ us)[w]? with
          | none => rw [List.getElem?_eq_none_iff] at hx; omega
          | some o =>
            cases o with
            | none => rfl
            | some z => exact absurd hmem (wipe_some hx).2
        · rw [List.getElem?_eq_none_iff.mpr (by rw [List.length_set]; omega), List.getElem?_eq_none_iff.mpr (by omega)]
      · rw [List.getElem?_set_ne hj]
  exact gen us fun _ h => h
theorem Step.hide {m2 m5 : Lay} {H2 H5 : Hp} {p : Addr} {o : List Addr} (s : Step m2 H2 m5 H5) (eo : m2.o = p :: o) (n : p ∉ m5.m) (no : p ∉ o) : Step ⟨m2.m, o⟩ H2 ⟨m5.m, o⟩ H5 := by
  have pr : ∀ a, a ≠ p → m2.pr a → (⟨m2.m, o⟩ : Lay).pr a := fun a ha z => by
    rcases z with z | z
    · exact .inl z
    · rw [eo] at z
      rcases List.mem_cons.mp z with w | w
      · exact absurd w ha
      · exact .inr w
  refine ⟨⟨s.mv.pre, fun a z w => ?_, fun a u w e => ?_⟩, rfl, fun a ha => s.rsv a (by rw [eo]; exact List.mem_cons_of_mem _ ha)⟩
  · have ha : a ≠ p := by
      rintro rfl
      rcases z with z | z
      · exact n z
      · exact no z
    refine s.mv.new a ?_ fun y => w (pr a ha y)
    rcases z with z | z
    · exact .inl z
    · exact .inr (by rw [s.same, eo]; exact List.mem_cons_of_mem _ z)
  · by_cases ha : a = p
    · rw [ha] at e ⊢
      rw [s.rsv p (by rw [eo]; exact List.mem_cons_self)]; exact e
    · exact s.mv.keep a u (fun y => w (pr a ha y)) e
/-- the walk of a comprehension: the list at p is put aside -/
theorem lc_all {σ : L2.St} {H : Hp} {Q : VK} {wi : WI} {T : Tg} {t : WB} {e : W1} {vs : List Nat} (hv : ∀ i ∈ tgS T, i ∈ vs) {fin : K1 → List D → DH → Prop}
    (hfin : ∀ (k : K1) (m : Lay) (H : Hp) (h : DH) (acc : List D) (p : Addr) (us : List V) (m1 : Lay) (H1 : Hp), Fol X.K m H k Q → RelH X.K m1 H1 h → Step m H m1 H1 → ¬ m1.pr p → H p = none → ¬ m.pr p → H1 p = some (.lst us) → RelDs X.K m1 H1 acc us → fin k acc h → Q (.ref p) H1)
    (q : ∃ (m : Lay) (ρ : Rho) (h : DH) (k : K1), RelS X.K m H σ ρ ∧ RelH X.K m H h ∧ (wi ρ h fun it h1 => lcGo T t e it.ok (wipeD ρ vs) (fun acc h2 => fin k acc h2) it.its [] h1) ∧ Fol X.K m H k Q) :
    tLc (tDI X.K wi) (tgG X.K T) (tDB X.K t) (tD X.K e) vs σ H Q := by
  obtain ⟨m, ρ, h, k, rs, rh, q, f⟩ := q
  refine ⟨m, ρ, h, _, rs, rh, q, fun it h1 m1 H1 J s1 rh1 ⟨G, Y, wk, hG, hY⟩ q1 p hp => ?_⟩
  have np : ¬ m1.pr p := rh1.notin hp
  have np0 : ¬ m.pr p := fun z => np (by
    rcases z with z | z
    · obtain ⟨i, hi⟩ := List.mem_iff_getElem?.mp z
      exact .inl (List.mem_of_getElem? (s1.at hi))
    · exact .inr (by rw [s1.same]; exact z))
  have hp0 : H p = none := by
    cases e0 : H p with
    | none => rfl
    | some o =>
      have := s1.mv.keep p o np0 e0
      rw [hp] at this; cases this
  -- what holds at each turn
  refine lc_it wk (fun i H2 => ∃ (m2 : Lay) (h2 : DH) (acc : List D) (us : List V), m2.o = p :: m1.o ∧ Step m1 H1 ⟨m2.m, m1.o⟩ H2 ∧ Mv m1 H1 m2 H2 ∧ H2 p = some (.lst us) ∧ RelH X.K m2 H2 h2 ∧ RelS X.K m2 H2 (L2.wipe σ vs) (wipeD ρ vs) ∧ RelDs X.K m2 H2 acc us ∧
      lcGo T t e it.ok (wipeD ρ vs) (fun acc h2 => fin k acc h2) (it.its.drop i) acc h2)
    ⟨m1.put p, h1, [], [], rfl, ⟨⟨⟨[], by simp [Lay.put]⟩, fun b z n => absurd z n, fun b u n eb => by rw [upd_ne (ne_of_none eb hp)]; exact eb⟩, rfl, fun b hb => upd_ne fun z => np (.inr (z ▸ hb))⟩, Mv.put _ hp, upd_same, rh1.put1 _ hp, ((rs.step s1).mv (Mv.put _ hp)).wipe vs, by unfold RelDs; rfl, by simpa using q1⟩ ?_ ?_ ?_
  · rintro i H2 hi ⟨m2, h2, acc, us, eo, s2, mv2, ep, rh2, rs2, ra, q2⟩
    refine hG m2 H2 h2 mv2 rh2 ?_
    cases hd : it.its.drop i <;> (rw [hd] at q2; exact q2.1)
  · rintro i x H2 H3 hi ⟨m2, h2, acc, us, eo, s2, mv2, ep, rh2, rs2, ra, q2⟩ y
    have hd : it.its.drop i = it.its[i] :: it.its.drop (i + 1) := List.drop_eq_getElem_cons hi
    rw [hd] at q2
    obtain ⟨ok2, ρ3, e3, q3⟩ := q2
    obtain ⟨d, ed, st, rh3, rd⟩ := hY i m2 H2 x H3 h2 mv2 rh2 ok2 y
    have e4 : d = it.its[i] := by simpa [hi] using ed.symm
    subst e4
    have po : p ∈ m2.o := by rw [eo]; exact List.mem_cons_self
    have no : p ∉ m1.o := fun z => np (.inr z)
    refine tg_ok T rd (rs2.step st) e3 fun σ4 rs4 hw => ⟨by rw [hw vs hv]; exact wipe_wipe σ vs, ?_⟩
    refine ⟨m2, ρ3, h2, _, rs4, rh3, q3, fun b h5 m5 H5 s5 rh5 q5 => ?_⟩
    have s25 : Step m2 H2 m5 H5 := st.trans s5
    have po5 : p ∈ m5.o := by rw [s25.same]; exact po
    have ep5 : H5 p = some (.lst us) := (s25.rsv p po).trans ep
    cases b with
    | false => exact ⟨m5, h5, acc, us, s25.same.trans eo, s2.trans (s25.hide eo (fun z => rh5.dj p z po5) no), mv2.trans s25.mv, ep5, rh5, rs2.step s25, ra.step s25, q5⟩
    | true =>
      refine ⟨m5, ρ3, h5, _, rs4.step s5, rh5, q5, fun dy h6 v m6 H6 s6 rh6 ry ⟨hz, q6⟩ => ?_⟩
      have s26 : Step m2 H2 m6 H6 := s25.trans s6
      have po6 : p ∈ m6.o := by rw [s26.same]; exact po
      have ra6 : RelDs X.K m6 H6 acc us := ra.step s26
      have sO : Step m1 H1 ⟨m6.m, m1.o⟩ H6 := s2.trans (s26.hide eo (fun z => rh6.dj p z po6) no)
      have mO := mv2.trans s26.mv
      have as : Mv m6 H6 m6 (L2.upd H6 p (.lst (us ++ [v]))) := Mv.aside _ po6
      refine ⟨us, (s26.rsv p po).trans ep, by rw [← ra6.length]; exact hz, m6, h6, acc ++ [dy], us ++ [v], s26.same.trans eo, ⟨⟨sO.mv.pre, sO.mv.new, fun a u n ea => ?_⟩, rfl, fun a ha => ?_⟩, ⟨mO.pre, mO.new, fun a u n ea => ?_⟩, upd_same, rh6.aside _ po6, (rs2.step s26).mv as, (ra6.snoc ry).mv as, q6⟩
      · rw [upd_ne (ne_of_none ea hp)]; exact sO.mv.keep a u n ea
      · rw [upd_ne (fun (z : a = p) => no (by rw [← z]; exact ha))]; exact sO.rsv a ha
      · rw [upd_ne (ne_of_none ea hp)]; exact mO.keep a u n ea
  · rintro H2 ⟨m2, h2, acc, us, eo, s2, mv2, ep, rh2, rs2, ra, q2⟩
    rw [List.drop_length] at q2
    have sub2 : ∀ a ∈ m1.o, a ∈ m2.o := fun a ha => by rw [eo]; exact List.mem_cons_of_mem _ ha
    refine hfin k m H h2 acc p us ⟨m2.m, m1.o⟩ H2 f (rh2.back sub2) (s1.trans s2) (fun z => ?_) hp0 np0 ep (ra.mv (Mv.back sub2)) q2.2
    rcases z with z | z
    · exact rh2.dj p z (by rw [eo]; exact List.mem_cons_self)
    · exact np (.inr z)

section
variable {iter elt : Expr} {ifs : List Expr} {scope : Scope} {own : List (Str × Nat)} {pos : Pos} {wi : WI} {T : Tg} {t : WB} {e : W1}
def DTs (X : Cx) (ifs : List Expr) (t : WB) : Prop := PTs X ifs (tDB X.K t)
theorem dts_nil : DTs X [] wYes := ⟨fun pins s σ H Q I ⟨m, ρ, h, k, rs, rh, q, f⟩ => pts_nil.run pins s σ H Q I (f true h m H (Step.refl m H) rh q)⟩
theorem dts_one {c : Expr} {t : WB} (h : DT X c t) : DTs X [c] t := pts_one h
theorem de_lc (hc : X.calm = true) (hN : X.N.Nodup) (hi : DI X tg iter wi) (ok : BlkOk X.N X.env.scope scope own) (hv : ∀ i ∈ tgS T, i ∈ own.map (·.2))
    (hg : ∀ (s : Shared) (H : Hp) (C : Addr) (cl : List (Str × Addr)) (fp : List Addr), PG (X.blk s H scope (compEnvC scope cl C X.env) fp) tg (tgG X.K T))
    (ht : ∀ (s : Shared) (H : Hp) (C : Addr) (cl : List (Str × Addr)) (fp : List Addr), DTs (X.blk s H scope (compEnvC scope cl C X.env) fp) ifs t)
    (he : ∀ (s : Shared) (H : Hp) (C : Addr) (cl : List (Str × Addr)) (fp : List Addr), DE (X.blk s H scope (compEnvC scope cl C X.env) fp) elt e) (hs : ∀ x, foldedSetIterable iter X.env x = pure x := by intro _; rfl) :
    DE X (.ListComp elt [⟨tg, iter, ifs, 0⟩] scope pos) (wLc wi T t e (own.map (·.2))) :=
  PE.imp (pe_lc (tt := tDB X.K t) (te := tD X.K e) hc hN hi ok hg ht he hs) fun σ H Q q => lc_all hv (fin := fun k acc h2 => k (.lst acc) h2) (fun k m H h acc p us m1 H1 f rh st np hp np0 ep ra q => f (.lst acc) h (.ref p) m1 H1 st rh (by unfold RelD; exact ⟨p, us, rfl, ⟨np, ep⟩, ra⟩) q) q
end
end
end Vf

namespace Vf
open PySem PySem.Spec PyProof.Rows L2

/-! ### values as data of the library -/
mutual
def toPy : D → PyData
  | .non => .none
  | .bl b => .bool b
  | .int i => .int i
  | .str x => .str x
  | .tup ds => .tuple (toPys ds)
  | .lst ds => .list (toPys ds)
  | .rol ds => .list (toPys ds)
  | .ref _ => .none
  | .sx _ _ => .none
  | .dic _ _ => .none
  | .kd _ _ _ => .none
def toPys : List D → List PyData
  | [] => []
  | d :: ds => toPy d :: toPys ds
end
mutual
def noRef : D → Bool
  | .ref _ => false
  | .sx _ _ => false
  | .dic _ _ => false
  | .kd _ _ _ => false
  | .tup ds => noRefs ds
  | .lst ds => noRefs ds
  | .rol ds => noRefs ds
  | _ => true
def noRefs : List D → Bool
  | [] => true
  | d :: ds => noRef d && noRefs ds
end
mutual
theorem RelD.dp {K : PySem.W.Frag} {m : Lay} {H : Hp} : ∀ {d : D} {v : V}, RelD K m H d v → noRef d = true → Dp K H v (toPy d)
  | .non, v, r, _ => by unfold RelD at r; subst r; unfold toPy; exact .non
  | .bl b, v, r, _ => by unfold RelD at r; subst r; unfold toPy; exact .bl b
  | .int i, v, r, _ => by unfold RelD at r; subst r; unfold toPy; exact .int i
  | .str x, v, r, _ => by unfold RelD at r; subst r; unfold toPy; exact .str x
  | .tup ds, v, r, n => by
    unfold RelD at r
    obtain ⟨a, vs, rfl, ta, rd⟩ := r
    unfold toPy
    unfold noRef at n
    exact .tup ta.sq (RelDs.dp rd n)
  | .lst ds, v, r, n => by
    unfold RelD at r
    obtain ⟨a, vs, rfl, ta, rd⟩ := r
    unfold toPy
    unfold noRef at n
    exact .lst ta.sq (RelDs.dp rd n)
  | .rol ds, v, r, n => by
    unfold RelD at r
    obtain ⟨a, vs, rfl, ta, rd⟩ := r
    unfold toPy
    unfold noRef at n
    exact .lst ta.sq (RelDs.dp rd n)
  | .ref k, v, r, n => by unfold noRef at n; cases n
  | .sx w ks, v, r, n => by unfold noRef at n; cases n
  | .dic _ _, v, r, n => by unfold noRef at n; cases n
  | .kd _ _ _, v, r, n => by unfold noRef at n; cases n
theorem RelDs.dp {K : PySem.W.Frag} {m : Lay} {H : Hp} : ∀ {ds : List D} {vs : List V}, RelDs K m H ds vs → noRefs ds = true → DpAll K H vs (toPys ds)
  | [], vs, r, _ => by unfold RelDs at r; subst r; unfold toPys; exact .nil
  | d :: ds, vs, r, n => by
    unfold RelDs at r
    obtain ⟨v, t, rfl, h1, h2⟩ := r
    unfold noRefs at n
    rw [Bool.and_eq_true] at n
    unfold toPys
    exact .cons (RelD.dp h1 n.1) (RelDs.dp h2 n.2)
end
def isDat (d : D) : Prop := noRef d = true ∧ SeqAt.shaped (toPy d) = true

section
variable {X : Cx}
/-! ### operators -/
theorem OpR.imp {f : Value → Value → Sem Value} {r r' : R2} (h : OpR X f r) (i : ∀ x y H Q, r' x y H Q → r x y H Q) : OpR X f r' := fun pins s σ H x y v u Q I rx ry q => h pins s σ H x y v u Q I rx ry (i _ _ _ _ q)
theorem CallR.imp {f : Value} {r r' : List V → Hp → VK → Prop} (h : CallR X f r) (i : ∀ xs H Q, r' xs H Q → r xs H Q) : CallR X f r' := fun pins s σ H xs us Q I rx q => h pins s σ H xs us Q I rx (i _ _ _ q)
def CMx (i j : Int) : Prop := i.natAbs.log2 + j.natAbs.log2 < 1000000
def wAdd : WO2
  | .int i, .int j, h, k => k (.int (i + j)) h
  | .str a, .str b, h, k => a.length + b.length ≤ sizeLine ∧ k (.str (a ++ b)) h
  | .tup a, .tup b, h, k => a.length + b.length ≤ sizeLine ∧ k (.tup (a ++ b)) h
  | .lst a, .lst b, h, k => a.length + b.length ≤ sizeLine ∧ k (.lst (a ++ b)) h
  | _, _, _, _ => False
theorem RelDs.app {K : PySem.W.Frag} {m : Lay} {H : Hp} {es : List D} {ws : List V} (r : RelDs K m H es ws) : ∀ {ds : List D} {vs : List V}, RelDs K m H ds vs → RelDs K m H (ds ++ es) (vs ++ ws)
  | [], vs, h => by unfold RelDs at h; subst h; exact r
  | d :: ds, vs, h => by
    unfold RelDs at h
    obtain ⟨v, t, rfl, h1, h2⟩ := h
    simp only [List.cons_append]
    unfold RelDs
    exact ⟨v, _, rfl, h1, RelDs.app r h2⟩
theorem RelD.tupNew {K : PySem.W.Frag} {m : Lay} {H : Hp} {h : DH} (rh : RelH K m H h) {p : Addr} (hp : H p = none) {ds : List D} {vs : List V} (r : RelDs K m H ds vs) : RelD K m (L2.upd H p (.tup vs)) (.tup ds) (.ref p) := by
  unfold RelD
  exact ⟨p, vs, rfl, .inl ⟨rh.notin hp, .inl upd_same⟩, r.step (Step.new rh _ hp)⟩
theorem RelD.lstNew {K : PySem.W.Frag} {m : Lay} {H : Hp} {h : DH} (rh : RelH K m H h) {p : Addr} (hp : H p = none) {ds : List D} {vs : List V} (r : RelDs K m H ds vs) : RelD K m (L2.upd H p (.lst vs)) (.lst ds) (.ref p) := by
  unfold RelD
  exact ⟨p, vs, rfl, ⟨rh.notin hp, upd_same⟩, r.step (Step.new rh _ hp)⟩
theorem RelD.intI {K : PySem.W.Frag} {m : Lay} {H : Hp} (i : Int) : RelD K m H (.int i) (.int i) := by unfold RelD; rfl
theorem RelD.blI {K : PySem.W.Frag} {m : Lay} {H : Hp} (i : Bool) : RelD K m H (.bl i) (.bl i) := by unfold RelD; rfl
theorem RelD.strI {K : PySem.W.Frag} {m : Lay} {H : Hp} (i : Str) : RelD K m H (.str i) (.str i) := by unfold RelD; rfl
theorem op2_add : Op2 X (binaryOp .Add) wAdd := by
  rintro pins s σ H x y v u Q I rx ry ⟨m, h, dx, dy, k, rh, r1, r2, w, f⟩
  cases dx <;> cases dy <;> first | exact False.elim w | skip
  · unfold RelD at r1 r2; subst r1 r2
    exact op_add pins s σ H _ _ v u Q I rx ry ⟨_, _, rfl, rfl, f.now rh (.intI _) w⟩
  · unfold RelD at r1 r2; subst r1 r2
    exact op_add_str pins s σ H _ _ v u Q I rx ry ⟨_, _, rfl, rfl, w.1, f.now rh (.strI _) w.2⟩
  · have r1' := r1
    have r2' := r2
    unfold RelD at r1 r2
    obtain ⟨a, vs, rfl, ta, ra⟩ := r1
    obtain ⟨b, us, rfl, tb, rb⟩ := r2
    obtain ⟨hz, w⟩ := w
    refine op_catA pins s σ H _ _ v u Q I rx ry ⟨a, b, vs, us, rfl, rfl, ta.sq, tb.sq, by rw [← ra.length, ← rb.length]; exact hz, fun e => ?_, fun _ e => ?_, fun _ _ p hp => f.new rh hp (.tupNew rh hp (rb.app ra)) w⟩
    · have e0 : _ = [] := List.length_eq_zero_iff.mp (by rw [ra.length, e]; rfl)
      rw [e0] at w
      exact f.now rh r2' w
    · have e0 : _ = [] := List.length_eq_zero_iff.mp (by rw [rb.length, e]; rfl)
      rw [e0, List.append_nil] at w
      exact f.now rh r1' w
  · unfold RelD at r1 r2
    obtain ⟨a, vs, rfl, ta, ra⟩ := r1
    obtain ⟨b, us, rfl, tb, rb⟩ := r2
    obtain ⟨hz, w⟩ := w
    exact op_cat pins s σ H _ _ v u Q I rx ry ⟨a, b, vs, us, rfl, rfl, ta.2, tb.2, by rw [← ra.length, ← rb.length]; exact hz, fun p hp => f.new rh hp (.lstNew rh hp (rb.app ra)) w⟩
/-! ints -/
def wI (C : Int → Int → Prop) (g : Int → Int → Int) : WO2
  | .int i, .int j, h, k => C i j ∧ k (.int (g i j)) h
  | _, _, _, _ => False
theorem op2_I {f : Value → Value → Sem Value} {C : Int → Int → Prop} {g : Int → Int → Int} (ho : OpR X f (rI C fun i j => .int (g i j))) : Op2 X f (wI C g) := by
  rintro pins s σ H x y v u Q I rx ry ⟨m, h, dx, dy, k, rh, r1, r2, w, f⟩
  cases dx <;> cases dy <;> first | exact False.elim w | skip
  unfold RelD at r1 r2; subst r1 r2
  exact ho pins s σ H _ _ v u Q I rx ry ⟨_, _, rfl, rfl, w.1, f.now rh (.intI _) w.2⟩
def wI0 (g : Int → Int → Int) : WO2
  | .int i, .int j, h, k => k (.int (g i j)) h
  | _, _, _, _ => False
theorem op2_I0 {f : Value → Value → Sem Value} {g : Int → Int → Int} (ho : OpR X f (rI0 fun i j => .int (g i j))) : Op2 X f (wI0 g) := by
  rintro pins s σ H x y v u Q I rx ry ⟨m, h, dx, dy, k, rh, r1, r2, w, f⟩
  cases dx <;> cases dy <;> first | exact False.elim w | skip
  unfold RelD at r1 r2; subst r1 r2
  exact ho pins s σ H _ _ v u Q I rx ry ⟨_, _, rfl, rfl, f.now rh (.intI _) w⟩
theorem op2_sub : Op2 X (binaryOp .Sub) (wI0 fun i j => i - j) := op2_I0 op_sub
theorem op2_mod : Op2 X (binaryOp .Mod) (wI (fun _ j => 0 < j) fun i j => i % j) := op2_I op_mod
theorem op2_fdiv : Op2 X (binaryOp .FloorDiv) (wI CDivW fun i j => i / j) := op2_I op_fdivW
theorem op2_pow : Op2 X (binaryOp .Pow) (wI CPow fun i j => i ^ j.toNat) := op2_I op_pow
theorem op2_shl : Op2 X (binaryOp .LShift) (wI CPow fun i j => i * 2 ^ j.toNat) := op2_I op_shl
theorem op2_shr : Op2 X (binaryOp .RShift) (wI (fun _ j => 0 ≤ j) fun i j => i / 2 ^ j.toNat) := op2_I op_shr
/-- * -/
def repD (xs : List D) (n : Nat) : List D := (List.replicate n xs).flatten
def wMul : WO2
  | .int i, .int j, h, k => CMulW i j ∧ k (.int (i * j)) h
  | .lst xs, .int j, h, k => (-(2 ^ 63) ≤ j ∧ j < 2 ^ 63 ∧ xs.length * j.toNat ≤ sizeLine) ∧ k (.lst (repD xs j.toNat)) h
  | _, _, _, _ => False
theorem RelDs.rep {K : PySem.W.Frag} {m : Lay} {H : Hp} {es : List D} {ws : List V} (r : RelDs K m H es ws) : ∀ n : Nat, RelDs K m H (repD es n) ((List.replicate n ws).flatten)
  | 0 => by simp [repD, RelDs]
  | n + 1 => by
    have := RelDs.rep r n
    unfold repD at this ⊢
    rw [List.replicate_succ, List.replicate_succ, List.flatten_cons, List.flatten_cons]
    exact RelDs.app this r
theorem op2_mul : Op2 X (binaryOp .Mult) wMul := by
  rintro pins s σ H x y v u Q I rx ry ⟨m, h, dx, dy, k, rh, r1, r2, w, f⟩
  cases dx <;> cases dy <;> first | exact False.elim w | skip
  · unfold RelD at r1 r2; subst r1 r2
    exact op_mulW pins s σ H _ _ v u Q I rx ry ⟨_, _, rfl, rfl, w.1, f.now rh (.intI _) w.2⟩
  · unfold RelD at r1 r2
    obtain ⟨a, vs, rfl, ta, ra⟩ := r1
    subst r2
    obtain ⟨⟨l1, l2, l3⟩, w⟩ := w
    exact op_rep pins s σ H _ _ v u Q I rx ry ⟨a, _, vs, rfl, rfl, ta.2, l1, l2, by rw [← ra.length]; exact l3, fun p hp => f.new rh hp (.lstNew rh hp (ra.rep _)) w⟩
/-! comparisons of ints and texts -/
def wOrd (g : Int → Int → Bool) (t : List Nat → List Nat → Bool) : WO2
  | .int i, .int j, h, k => k (.bl (g i j)) h
  | .str a, .str b, h, k => k (.bl (t a.cps.toList b.cps.toList)) h
  | _, _, _, _ => False
theorem op2_ord {f : Value → Value → Sem Value} {g : Int → Int → Bool} {t : List Nat → List Nat → Bool} (h1 : OpR X f (rI0 fun i j => .bl (g i j))) (h2 : OpR X f (fun x y H Q => ∃ i j, x = .str i ∧ y = .str j ∧ Q (.bl (t i.cps.toList j.cps.toList)) H)) : Op2 X f (wOrd g t) := by
  rintro pins s σ H x y v u Q I rx ry ⟨m, h, dx, dy, k, rh, r1, r2, w, f⟩
  cases dx <;> cases dy <;> first | exact False.elim w | skip
  · unfold RelD at r1 r2; subst r1 r2
    exact h1 pins s σ H _ _ v u Q I rx ry ⟨_, _, rfl, rfl, f.now rh (.blI _) w⟩
  · unfold RelD at r1 r2; subst r1 r2
    exact h2 pins s σ H _ _ v u Q I rx ry ⟨_, _, rfl, rfl, f.now rh (.blI _) w⟩
theorem op2_lt : Op2 X (compareOp .Lt) (wOrd (fun i j => decide (i < j)) fun a b => decide (a < b)) := op2_ord op_lt op_lt_str
theorem op2_le : Op2 X (compareOp .LtE) (wOrd (fun i j => decide (i ≤ j)) fun a b => !decide (b < a)) := op2_ord op_le op_le_str
theorem op2_gt : Op2 X (compareOp .Gt) (wOrd (fun i j => decide (j < i)) fun a b => decide (b < a)) := op2_ord op_gt op_gt_str
theorem op2_ge : Op2 X (compareOp .GtE) (wOrd (fun i j => decide (j ≤ i)) fun a b => !decide (a < b)) := op2_ord op_ge op_ge_str
/-! == of data -/
def dEq (x y : D) : Bool := PyData.eqv (toPy x) (toPy y)
def isScal : D → D → Prop
  | .str _, .str _ => True
  | .int _, .int _ => True
  | _, _ => False
def wEq : WO2 := fun x y h k => ((isDat x ∧ isDat y) ∨ isScal x y) ∧ k (.bl (dEq x y)) h
def wNe : WO2 := fun x y h k => ((isDat x ∧ isDat y) ∨ isScal x y) ∧ k (.bl (!dEq x y)) h
theorem dEq_str (x y : Str) : dEq (.str x) (.str y) = decide (x = y) := by
  unfold dEq toPy
  simp only [PyData.eqv]
  by_cases h : x = y
  · subst h; simp
  · simp [h]
theorem dEq_int (x y : Int) : dEq (.int x) (.int y) = decide (x = y) := by
  unfold dEq toPy
  simp only [PyData.eqv]
  by_cases h : x = y
  · subst h; simp
  · simp [h]
theorem op2_eq {n : Nat} (hr : Room n X.A) : Op2 X (compareOp .Eq) wEq := by
  rintro pins s σ H x y v u Q I rx ry ⟨m, h, dx, dy, k, rh, r1, r2, ⟨⟨⟨n1, s1⟩, n2, s2⟩ | sc, w⟩, f⟩
  · exact op_eqD hr.units pins s σ H _ _ v u Q I rx ry ⟨_, _, r1.dp n1, r2.dp n2, s1, s2, f.now rh (.blI _) w⟩
  · cases dx <;> cases dy <;> first | exact False.elim sc | skip
    · unfold RelD at r1 r2; subst r1 r2
      refine op_eq pins s σ H _ _ v u Q I rx ry ⟨rfl, f.now rh (.blI _) ?_⟩
      rw [dEq_int] at w
      simpa using w
    · unfold RelD at r1 r2; subst r1 r2
      refine op_eq pins s σ H _ _ v u Q I rx ry ⟨rfl, f.now rh (.blI _) ?_⟩
      rw [dEq_str] at w
      simpa using w
theorem op2_ne {n : Nat} (hr : Room n X.A) : Op2 X (compareOp .NotEq) wNe := by
  rintro pins s σ H x y v u Q I rx ry ⟨m, h, dx, dy, k, rh, r1, r2, ⟨⟨⟨n1, s1⟩, n2, s2⟩ | sc, w⟩, f⟩
  · exact op_neD hr.units pins s σ H _ _ v u Q I rx ry ⟨_, _, r1.dp n1, r2.dp n2, s1, s2, f.now rh (.blI _) w⟩
  · cases dx <;> cases dy <;> first | exact False.elim sc | skip
    · unfold RelD at r1 r2; subst r1 r2
      refine op_ne pins s σ H _ _ v u Q I rx ry ⟨rfl, f.now rh (.blI _) ?_⟩
      rw [dEq_int] at w
      simpa using w
    · unfold RelD at r1 r2; subst r1 r2
      refine op_ne pins s σ H _ _ v u Q I rx ry ⟨rfl, f.now rh (.blI _) ?_⟩
      rw [dEq_str] at w
      simpa using w
/-! in -/
def inStr (a b : Str) : Bool := match a.cps.toList with
  | [c] => decide (c ∈ b.cps.toList)
  | _ => !(Builtin.Str.occurrences b a 0 b.length 1).isEmpty
def inD (x : D) (ys : List D) : Bool := ys.any fun y => dEq y x
def wIn (g : Bool → Bool) : WO2
  | .str a, .str b, h, k => k (.bl (g (inStr a b))) h
  | x, .tup ys, h, k => (isDat x ∧ isDat (.tup ys)) ∧ k (.bl (g (inD x ys))) h
  | x, .lst ys, h, k => (isDat x ∧ isDat (.lst ys)) ∧ k (.bl (g (inD x ys))) h
  | _, _, _, _ => False
theorem any_toPys (x : D) : ∀ ys : List D, ((toPys ys).any fun y => PyData.eqv y (toPy x)) = inD x ys
  | [] => by simp [toPys, inD]
  | y :: ys => by
    have := any_toPys x ys
    unfold inD at this ⊢
    unfold toPys
    rw [List.any_cons, List.any_cons, this]; rfl
theorem inStr_one {a b : Str} {c : Nat} (e : a.cps.toList = [c]) : a = ⟨#[c]⟩ ∧ inStr a b = decide (c ∈ b.cps.toList) := by
  refine ⟨?_, by unfold inStr; rw [e]⟩
  have : a.cps = #[c] := by rw [← Array.toList_inj]; simpa using e
  cases a; simp at this; simp [this]
theorem op2_in {n : Nat} (hr : Room n X.A) : Op2 X (compareOp .In) (wIn fun b => b) := by
  rintro pins s σ H x y v u Q I rx ry ⟨m, h, dx, dy, k, rh, r1, r2, w, f⟩
  have hu : X.A.units + 65 < cLine := by have := hr.un; omega
  have seq : ∀ ys, isDat dx → (toPy dy = .tuple (toPys ys) ∨ toPy dy = .list (toPys ys)) → isDat dy → k (.bl (inD dx ys)) h → wpAny (model X.prog X.w) X.A (compareOp .In v u) (EP X pins σ Q) X.xe s := by
    rintro ys ⟨n1, s1⟩ e ⟨n2, s2⟩ w
    obtain ⟨as, q1⟩ := Dp.reads I _ _ _ (r1.dp n1) rx
    obtain ⟨bs, q2⟩ := Dp.reads I _ _ _ (r2.dp n2) ry
    rcases e with e | e
    · rw [e] at q2 s2
      exact SeqAt.in_tuple_reads q2 q1 (by simpa [PyData.canLay0] using SeqAt.canLay_of_shaped s2) (SeqAt.canLay_of_shaped s1) (room_in_shaped s1 hu) ⟨.bl _, H, I, rfl, by rw [any_toPys]; exact f.now rh (.blI _) w⟩
    · rw [e] at q2 s2
      exact SeqAt.in_list_reads q2 q1 (by simpa [PyData.canLay0] using SeqAt.canLay_of_shaped s2) (SeqAt.canLay_of_shaped s1) (room_in_shaped s1 hu) ⟨.bl _, H, I, rfl, by rw [any_toPys]; exact f.now rh (.blI _) w⟩
  cases dy with
  | tup ys =>
    have w' : (isDat dx ∧ isDat (.tup ys)) ∧ k (.bl (inD dx ys)) h := by cases dx <;> exact w
    exact seq ys w'.1.1 (.inl (by simp [toPy])) w'.1.2 w'.2
  | lst ys =>
    have w' : (isDat dx ∧ isDat (.lst ys)) ∧ k (.bl (inD dx ys)) h := by cases dx <;> exact w
    exact seq ys w'.1.1 (.inr (by simp [toPy])) w'.1.2 w'.2
  | str b =>
    cases dx with
    | str a =>
      have w' : k (.bl (inStr a b)) h := w
      unfold RelD at r1 r2; subst r1 r2
      rcases ha : a.cps.toList with _ | ⟨c, _ | ⟨c2, r⟩⟩
      · refine op_in_str pins s σ H _ _ v u Q I rx ry ⟨_, _, rfl, rfl, f.now rh (.blI _) ?_⟩
        unfold inStr at w'; rw [ha] at w'; exact w'
      · obtain ⟨rfl, e⟩ := inStr_one (b := b) ha
        rw [e] at w'
        exact op_in_sign pins s σ H _ _ v u Q I rx ry ⟨c, b, rfl, rfl, f.now rh (.blI _) w'⟩
      · refine op_in_str pins s σ H _ _ v u Q I rx ry ⟨_, _, rfl, rfl, f.now rh (.blI _) ?_⟩
        unfold inStr at w'; rw [ha] at w'; exact w'
    | _ => exact False.elim w
  | _ => cases dx <;> exact False.elim w
/-! is -/
def wIs (g : Bool → Bool) : WO2
  | .bl a, .bl b, h, k => k (.bl (g (decide (a = b)))) h
  | x, .non, h, k => k (.bl (g (match x with | .non => true | _ => false))) h
  | _, _, _, _ => False
theorem RelD.nonV {K : PySem.W.Frag} {m : Lay} {H : Hp} {d : D} {v : V} (r : RelD K m H d v) : decide (v = V.non) = (match d with | .non => true | _ => false) := by
  cases d with
  | non => unfold RelD at r; subst r; rfl
  | bl => unfold RelD at r; subst r; rfl
  | int => unfold RelD at r; subst r; rfl
  | str => unfold RelD at r; subst r; rfl
  | tup => unfold RelD at r; obtain ⟨a, vs, rfl, _⟩ := r; rfl
  | lst => unfold RelD at r; obtain ⟨a, vs, rfl, _⟩ := r; rfl
  | rol => unfold RelD at r; obtain ⟨a, vs, rfl, _⟩ := r; rfl
  | ref => unfold RelD at r; obtain ⟨a, rfl, _⟩ := r; rfl
  | sx => unfold RelD at r; obtain ⟨a, rfl, _⟩ := r; rfl
  | dic => unfold RelD at r; obtain ⟨a, _, rfl, _⟩ := r; rfl
  | kd => unfold RelD at r; obtain ⟨a, _, _, _, rfl, _⟩ := r; rfl
theorem op2_is : Op2 X (compareOp .Is) (wIs fun b => b) := by
  rintro pins s σ H x y v u Q I rx ry ⟨m, h, dx, dy, k, rh, r1, r2, w, f⟩
  cases dy with
  | non =>
    unfold RelD at r2; subst r2
    refine op_isN pins s σ H _ _ v u Q I rx ry ⟨rfl, f.now rh (.blI _) ?_⟩
    rw [r1.nonV]
    cases dx <;> exact w
  | bl b =>
    cases dx with
    | bl a =>
      unfold RelD at r1 r2; subst r1 r2
      exact op_is_bl pins s σ H _ _ v u Q I rx ry ⟨a, b, rfl, rfl, f.now rh (.blI _) w⟩
    | _ => exact False.elim w
  | _ => cases dx <;> exact False.elim w
theorem op2_isnot : Op2 X (compareOp .IsNot) (wIs fun b => !b) := by
  rintro pins s σ H x y v u Q I rx ry ⟨m, h, dx, dy, k, rh, r1, r2, w, f⟩
  cases dy with
  | non =>
    unfold RelD at r2; subst r2
    refine op_notN pins s σ H _ _ v u Q I rx ry ⟨rfl, f.now rh (.blI _) ?_⟩
    rw [r1.nonV]
    cases dx <;> exact w
  | bl b =>
    cases dx with
    | bl a =>
      unfold RelD at r1 r2; subst r1 r2
      exact op_isnot_bl pins s σ H _ _ v u Q I rx ry ⟨a, b, rfl, rfl, f.now rh (.blI _) w⟩
    | _ => exact False.elim w
  | _ => cases dx <;> exact False.elim w
/-! subscripts -/
def wIx : WO2
  | .tup ds, .int i, h, k => ∃ d, atI ds i = some d ∧ k d h
  | .lst ds, .int i, h, k => ∃ d, atI ds i = some d ∧ k d h
  | .str z, .int i, h, k => z.length ≤ sizeLine ∧ ∃ c, atI z.cps.toList i = some c ∧ k (.str ⟨#[c]⟩) h
  | .rol ds, .int i, h, k => ∃ d, atI ds i = some d ∧ k d h
  | .ref n, .int i, h, k => ∃ ds d, h[n]? = some (.lst ds) ∧ atI ds i = some d ∧ k d h
  | _, _, _, _ => False
theorem RelDs.atI {K : PySem.W.Frag} {m : Lay} {H : Hp} {ds : List D} {vs : List V} {i : Int} {d : D} (r : RelDs K m H ds vs) (e : L2.atI ds i = some d) : ∃ v, L2.atI vs i = some v ∧ RelD K m H d v := by
  unfold L2.atI at e ⊢
  rw [← r.length]
  cases hx : ixN ds.length i with
  | none => rw [hx] at e; cases e
  | some j =>
    rw [hx] at e
    obtain ⟨v, ev, rv⟩ := r.atD (show ds[j]? = some d from e)
    exact ⟨v, ev, rv⟩
theorem de_ix {a b : Expr} {wa wb : W1} {pos : Pos} (ha : DE X a wa) (hb : DE X b wb) (hs : PlainIx b := by exact fun _ _ => rfl) : DE X (.Subscript a b pos) (wBin wIx wa wb) := by
  refine PE.imp (pe_ix ix_seq ha hb hs) (two ?_)
  rintro x y H Q ⟨m, h, dx, dy, k, rh, r1, r2, w, f⟩
  cases dx <;> cases dy <;> first | exact False.elim w | skip
  · unfold RelD at r1 r2; subst r1 r2
    obtain ⟨z, c, e, w⟩ := w
    exact .inr (.inr ⟨_, _, c, rfl, rfl, z, e, f.now rh (.strI _) w⟩)
  · unfold RelD at r1 r2; subst r2
    obtain ⟨a, vs, rfl, ta, ra⟩ := r1
    obtain ⟨d, e, w⟩ := w
    obtain ⟨v, ev, rv⟩ := ra.atI e
    exact .inr (.inl ⟨a, vs, _, v, rfl, rfl, ta.sq, ev, f.now rh rv w⟩)
  · unfold RelD at r1 r2; subst r2
    obtain ⟨a, vs, rfl, ta, ra⟩ := r1
    obtain ⟨d, e, w⟩ := w
    obtain ⟨v, ev, rv⟩ := ra.atI e
    exact .inl ⟨a, vs, _, v, rfl, rfl, ta.sq, ev, f.now rh rv w⟩
  · unfold RelD at r1 r2; subst r2
    obtain ⟨a, vs, rfl, ta, ra⟩ := r1
    obtain ⟨d, e, w⟩ := w
    obtain ⟨v, ev, rv⟩ := ra.atI e
    exact .inl ⟨a, vs, _, v, rfl, rfl, ta.sq, ev, f.now rh rv w⟩
  · unfold RelD at r1 r2; subst r2
    obtain ⟨a, rfl, ha⟩ := r1
    obtain ⟨ds, d, en, e, w⟩ := w
    obtain ⟨b, eb, vs, evs, ra⟩ := rh.ob _ _ en
    rw [ha] at eb; cases eb
    obtain ⟨v, ev, rv⟩ := ra.atI e
    exact .inl ⟨a, vs, _, v, rfl, rfl, SqL.of evs, ev, f.now rh rv w⟩
end
end Vf

namespace Vf
open PySem PySem.Spec PyProof.Rows L2
section
variable {X : Cx}
/-! ### calls of built-ins -/
theorem de_callB {id : String} {o : WOL} {w : WL} {x : Str} {p pos : Pos} {e : Expr} {es : List Expr} (hc : OpL X (.builtin id) o) (hg : Gl X x) (hm : X.mg x = none) (hv : bootBuiltins x = some (.builtin id)) (ha : DA X (e :: es) w) (hn : x ≠ "__name__" := by decide) (hdb : (x == ("__debug__" : Str)) = false := by decide)
    (he : starEach (e :: es) X.env = (false, eval e X.env) :: starEach es X.env := by rfl) (hpl : (backTo pos (starEach es X.env)).any (·.1) = false := by rfl) : DE X (.Call (.Name x p) (e :: es) [] pos) (wApp o w) :=
  PE.imp (pe_callB hc hg hm hv ha hn hdb he hpl) fun σ H Q ⟨m, ρ, h, k, rs, rh, q, c⟩ => ⟨m, ρ, h, _, rs, rh, q, fun ds h1 vs m1 H1 s1 rh1 rd q1 => ⟨m1, h1, ds, k, rh1, rd, q1, Fol.step c s1⟩⟩
theorem de_callTy {T : String} {o : WOL} {w : WL} {x : Str} {p pos : Pos} {e : Expr} {es : List Expr} (hc : OpL X (.type T) o) (hg : Gl X x) (hm : X.mg x = none) (hv : bootBuiltins x = some (.type T)) (ha : DA X (e :: es) w) (hn : x ≠ "__name__" := by decide) (hdb : (x == ("__debug__" : Str)) = false := by decide)
    (he : starEach (e :: es) X.env = (false, eval e X.env) :: starEach es X.env := by rfl) (hpl : (backTo pos (starEach es X.env)).any (·.1) = false := by rfl) : DE X (.Call (.Name x p) (e :: es) [] pos) (wApp o w) :=
  PE.imp (pe_callTy hc hg hm hv ha hn hdb he hpl) fun σ H Q ⟨m, ρ, h, k, rs, rh, q, c⟩ => ⟨m, ρ, h, _, rs, rh, q, fun ds h1 vs m1 H1 s1 rh1 rd q1 => ⟨m1, h1, ds, k, rh1, rd, q1, Fol.step c s1⟩⟩

/-- the length of a value -/
def Len : D → DH → Nat → Prop
  | .str x, _, n => x.length ≤ sizeLine ∧ n = x.length
  | .tup ds, _, n => n = ds.length
  | .lst ds, _, n => n = ds.length
  | .rol ds, _, n => n = ds.length
  | .ref i, h, n => ∃ ds, h[i]? = some (.lst ds) ∧ n = ds.length
  | _, _, _ => False
theorem Len.ok {K : PySem.W.Frag} {m : Lay} {H : Hp} {h : DH} (rh : RelH K m H h) : ∀ {d : D} {v : V} {n : Nat}, RelD K m H d v → Len d h n → LenV K v H n
  | .non, v, b, r, t => False.elim t
  | .bl c, v, b, r, t => False.elim t
  | .int i, v, b, r, t => False.elim t
  | .str x, v, b, r, t => by unfold RelD at r; subst r; exact t
  | .tup ds, v, b, r, t => by
    unfold RelD at r
    obtain ⟨a, vs, rfl, ta, rd⟩ := r
    exact .inr ⟨vs, ta.sq, by rw [← rd.length]; exact t⟩
  | .lst ds, v, b, r, t => by
    unfold RelD at r
    obtain ⟨a, vs, rfl, ta, rd⟩ := r
    exact .inl ⟨vs, ta.sq, by rw [← rd.length]; exact t⟩
  | .rol ds, v, b, r, t => by
    unfold RelD at r
    obtain ⟨a, vs, rfl, ta, rd⟩ := r
    exact .inl ⟨vs, ta.sq, by rw [← rd.length]; exact t⟩
  | .ref n, v, b, r, t => by
    unfold RelD at r
    obtain ⟨a, rfl, e⟩ := r
    obtain ⟨ds, hn, t⟩ := t
    obtain ⟨a', e', vs, q, rd⟩ := rh.ob n _ hn
    rw [e] at e'; cases e'
    exact .inl ⟨vs, SqL.of q, by rw [← rd.length]; exact t⟩
  | .sx w ks, v, b, r, t => False.elim t
  | .dic _ _, v, b, r, t => False.elim t
  | .kd _ _ _, v, b, r, t => False.elim t
def wLen : WOL := fun ds h k => ∃ d n, ds = [d] ∧ Len d h n ∧ k (.int (n : Nat)) h
theorem ol_len : OpL X (.builtin "len") wLen := by
  rintro pins s σ H xs us Q I r ⟨m, h, ds, k, rh, rd, ⟨d, n, e, hl, q⟩, f⟩
  subst e
  obtain ⟨v, rfl, r1⟩ := rd.one
  exact call_len pins s σ H _ us Q I r ⟨v, n, rfl, hl.ok rh r1, f.now rh (.intI _) q⟩
def wAbs : WOL := fun ds h k => ∃ i, ds = [.int i] ∧ k (.int (if i < 0 then -i else i)) h
theorem ol_abs : OpL X (.builtin "abs") wAbs := by
  rintro pins s σ H xs us Q I r ⟨m, h, ds, k, rh, rd, ⟨i, e, q⟩, f⟩
  subst e
  obtain ⟨v, rfl, r1⟩ := rd.one
  unfold RelD at r1; subst r1
  exact call_abs pins s σ H _ us Q I r ⟨i, rfl, f.now rh (.intI _) q⟩
def wInt : WOL := fun ds h k => (∃ i, ds = [.int i] ∧ k (.int i) h) ∨ (∃ b, ds = [.bl b] ∧ k (.int (if b then 1 else 0)) h) ∨ ∃ a n, ds = [.str a] ∧ PySem.intText? a = some n ∧ a.length ≤ 640 ∧ k (.int n) h
theorem ol_int : OpL X (.type "int") wInt := by
  rintro pins s σ H xs us Q I r ⟨m, h, ds, k, rh, rd, q, f⟩
  rcases q with ⟨i, e, q⟩ | ⟨i, e, q⟩ | ⟨a, n, e, h1, h2, q⟩
  · subst e
    obtain ⟨v, rfl, r1⟩ := rd.one
    unfold RelD at r1; subst r1
    exact call_int1 pins s σ H _ us Q I r (.inl ⟨i, rfl, f.now rh (.intI _) q⟩)
  · subst e
    obtain ⟨v, rfl, r1⟩ := rd.one
    unfold RelD at r1; subst r1
    exact call_int1 pins s σ H _ us Q I r (.inr ⟨i, rfl, f.now rh (.intI _) q⟩)
  · subst e
    obtain ⟨v, rfl, r1⟩ := rd.one
    unfold RelD at r1; subst r1
    exact call_int_str pins s σ H _ us Q I r ⟨a, n, rfl, h1, h2, f.now rh (.intI _) q⟩
def wMM (g : Int → Int → Int) : WOL := fun ds h k => ∃ i j, ds = [.int i, .int j] ∧ k (.int (g i j)) h
theorem ol_max2 (hc : X.calm = true) : OpL X (.builtin "max") (wMM fun i j => if j > i then j else i) := by
  rintro pins s σ H xs us Q I r ⟨m, h, ds, k, rh, rd, ⟨i, j, e, q⟩, f⟩
  subst e
  obtain ⟨v, w, rfl, r1, r2⟩ := rd.two
  unfold RelD at r1 r2; subst r1 r2
  exact call_max2 hc pins s σ H _ us Q I r ⟨i, j, rfl, f.now rh (.intI _) q⟩
theorem ol_min2 (hc : X.calm = true) : OpL X (.builtin "min") (wMM fun i j => if j < i then j else i) := by
  rintro pins s σ H xs us Q I r ⟨m, h, ds, k, rh, rd, ⟨i, j, e, q⟩, f⟩
  subst e
  obtain ⟨v, w, rfl, r1, r2⟩ := rd.two
  unfold RelD at r1 r2; subst r1 r2
  exact call_min2 hc pins s σ H _ us Q I r ⟨i, j, rfl, f.now rh (.intI _) q⟩
theorem rel_bls {K : PySem.W.Frag} {m : Lay} {H : Hp} : ∀ {bs : List Bool} {vs : List V}, RelDs K m H (bs.map .bl) vs → vs = bs.map V.bl
  | [], vs, r => by simpa [RelDs] using r
  | b :: bs, vs, r => by
    simp only [List.map_cons] at r
    unfold RelDs at r
    obtain ⟨v, t, rfl, h1, h2⟩ := r
    unfold RelD at h1
    rw [h1, rel_bls h2]; rfl
theorem rel_strs {K : PySem.W.Frag} {m : Lay} {H : Hp} : ∀ {bs : List Str} {vs : List V}, RelDs K m H (bs.map .str) vs → vs = bs.map V.str
  | [], vs, r => by simpa [RelDs] using r
  | b :: bs, vs, r => by
    simp only [List.map_cons] at r
    unfold RelDs at r
    obtain ⟨v, t, rfl, h1, h2⟩ := r
    unfold RelD at h1
    rw [h1, rel_strs h2]; rfl
theorem rel_ints {K : PySem.W.Frag} {m : Lay} {H : Hp} : ∀ {bs : List Int} {vs : List V}, RelDs K m H (bs.map .int) vs → vs = bs.map V.int
  | [], vs, r => by simpa [RelDs] using r
  | b :: bs, vs, r => by
    simp only [List.map_cons] at r
    unfold RelDs at r
    obtain ⟨v, t, rfl, h1, h2⟩ := r
    unfold RelD at h1
    rw [h1, rel_ints h2]; rfl
theorem strs_rel {K : PySem.W.Frag} {m : Lay} {H : Hp} : ∀ (bs : List Str), RelDs K m H (bs.map .str) (bs.map V.str)
  | [] => by simp [RelDs]
  | b :: bs => by
    simp only [List.map_cons]
    unfold RelDs
    exact ⟨_, _, rfl, .strI b, strs_rel bs⟩
theorem ints_rel {K : PySem.W.Frag} {m : Lay} {H : Hp} : ∀ (bs : List Int), RelDs K m H (bs.map .int) (bs.map V.int)
  | [] => by simp [RelDs]
  | b :: bs => by
    simp only [List.map_cons]
    unfold RelDs
    exact ⟨_, _, rfl, .intI b, ints_rel bs⟩
def wAll : WOL := fun ds h k => ∃ bs : List Bool, ds = [.lst (bs.map .bl)] ∧ k (.bl (bs.all id)) h
theorem ol_all (hc : X.calm = true) : OpL X (.builtin "all") wAll := by
  rintro pins s σ H xs us Q I r ⟨m, h, ds, k, rh, rd, ⟨bs, e, q⟩, f⟩
  subst e
  obtain ⟨v, rfl, r1⟩ := rd.one
  unfold RelD at r1
  obtain ⟨a, vs, rfl, ta, ra⟩ := r1
  rw [rel_bls ra] at ta
  exact cr_all hc pins s σ H _ us Q I r ⟨a, bs, rfl, ta.sq, f.now rh (.blI _) q⟩
def wAny : WOL := fun ds h k => ∃ bs : List Bool, ds = [.lst (bs.map .bl)] ∧ k (.bl (bs.any id)) h
theorem ol_any (hc : X.calm = true) : OpL X (.builtin "any") wAny := by
  rintro pins s σ H xs us Q I r ⟨m, h, ds, k, rh, rd, ⟨bs, e, q⟩, f⟩
  subst e
  obtain ⟨v, rfl, r1⟩ := rd.one
  unfold RelD at r1
  obtain ⟨a, vs, rfl, ta, ra⟩ := r1
  rw [rel_bls ra] at ta
  exact cr_any hc pins s σ H _ us Q I r ⟨a, bs, rfl, ta.sq, f.now rh (.blI _) q⟩
def wTupleOf : WOL := fun ds h k => (∃ xs, ds = [.tup xs] ∧ k (.tup xs) h) ∨ ∃ xs, ds = [.lst xs] ∧ k (.tup xs) h
theorem ol_tuple : OpL X (.type "tuple") wTupleOf := by
  rintro pins s σ H xs us Q I r ⟨m, h, ds, k, rh, rd, q, f⟩
  rcases q with ⟨ys, e, q⟩ | ⟨ys, e, q⟩
  · subst e
    obtain ⟨v, rfl, r1⟩ := rd.one
    have r1' := r1
    unfold RelD at r1
    obtain ⟨a, vs, rfl, ta, ra⟩ := r1
    exact call_tuple_of pins s σ H _ us Q I r ⟨a, vs, rfl, .inr ⟨ta.sq, f.now rh r1' q⟩⟩
  · subst e
    obtain ⟨v, rfl, r1⟩ := rd.one
    unfold RelD at r1
    obtain ⟨a, vs, rfl, ta, ra⟩ := r1
    exact call_tuple_of pins s σ H _ us Q I r ⟨a, vs, rfl, .inl ⟨ta.sq, fun p hp => f.new rh hp (.tupNew rh hp ra) q⟩⟩
/-- sorted of texts, below 64 -/
def wSortedS : WOL := fun ds h k => ∃ xs : List Str, ds = [.lst (xs.map .str)] ∧ xs.length < 64 ∧ ∀ ys : List Str, ys.Perm xs → sortedS ys = true → k (.lst (ys.map .str)) h
theorem ol_sortedS : OpL X (.builtin "sorted") wSortedS := by
  rintro pins s σ H xs us Q I r ⟨m, h, ds, k, rh, rd, ⟨bs, e, h64, q⟩, f⟩
  subst e
  obtain ⟨v, rfl, r1⟩ := rd.one
  unfold RelD at r1
  obtain ⟨a, vs, rfl, ta, ra⟩ := r1
  rw [rel_strs ra] at ta
  exact cr_sortedS pins s σ H _ us Q I r ⟨a, bs, rfl, ta.sq, h64, fun ys p hp hs hn => f.new rh hn (.lstNew rh hn (strs_rel ys)) (q ys hp hs)⟩
/-- repr of data -/
def wRepr : WOL := fun ds h k => ∃ d, ds = [d] ∧ (noRef d = true ∧ (toPy d).showable = true ∧ (toPy d).hasDict = false ∧ (toPy d).depth ≤ 64 ∧ (toPy d).shown.length ≤ sizeLine) ∧ k (.str (toPy d).shown) h
theorem ol_repr {n : Nat} (hr : Room n X.A) (hgu : X.A.guards = some []) : OpL X (.builtin "repr") wRepr := by
  rintro pins s σ H xs us Q I r ⟨m, h, ds, k, rh, rd, ⟨d, e, ⟨n1, n2, n3, n4, n5⟩, q⟩, f⟩
  subst e
  obtain ⟨v, rfl, r1⟩ := rd.one
  obtain ⟨u, rfl, ru⟩ := vals1 r
  obtain ⟨as, rr⟩ := Dp.reads I _ _ _ (r1.dp n1) ru
  have fin : ∀ (t : Nat) (h' : Heap), (∀ b o, s.heap.get? b = some o → h'.get? b = some o) → ∀ tk, EP X pins σ Q (.str (toPy d).shown tk) { s with heap := h', toks := t } := fun t h' hk tk => ⟨.str _, H, I.kept hk, ⟨tk, rfl⟩, f.now rh (.strI _) q⟩
  have hun := hr.un
  cases d with
  | non =>
    unfold RelD at r1; subst r1; cases ru
    exact PySem.P.repr_of_none (fin _ _ (fun _ _ e => e) _)
  | bl b =>
    unfold RelD at r1; subst r1; cases ru
    exact PySem.P.repr_of_bool (fin _ _ (fun _ _ e => e) _)
  | int i =>
    unfold RelD at r1; subst r1
    obtain ⟨t, rfl⟩ := ru
    exact PySem.P.repr_of_int (by simpa [toPy, PyData.showable] using n2) (fin _ _ (fun _ _ e => e) _)
  | str x =>
    unfold RelD at r1; subst r1
    obtain ⟨t, rfl⟩ := ru
    exact PySem.P.repr_of_str (fin _ _ (fun _ _ e => e) _) n5
  | tup ds =>
    unfold RelD at r1
    obtain ⟨a, vs, rfl, _⟩ := r1
    cases ru
    exact repr_of_reads' rr n2 (fun z => by rw [n3] at z; cases z) hgu (by omega) (fun _ _ e => e) (fun h' u tk hk => fin _ h' hk u) n5
  | lst ds =>
    unfold RelD at r1
    obtain ⟨a, vs, rfl, _⟩ := r1
    cases ru
    exact repr_of_reads' rr n2 (fun z => by rw [n3] at z; cases z) hgu (by omega) (fun _ _ e => e) (fun h' u tk hk => fin _ h' hk u) n5
  | rol ds =>
    unfold RelD at r1
    obtain ⟨a, vs, rfl, _⟩ := r1
    cases ru
    exact repr_of_reads' rr n2 (fun z => by rw [n3] at z; cases z) hgu (by omega) (fun _ _ e => e) (fun h' u tk hk => fin _ h' hk u) n5
  | ref => cases n1
  | sx => cases n1
  | dic => cases n1
  | kd => cases n1
/-- sep.join(texts) -/
def wJoin : WO2 := fun x y h k => ∃ (a : Str) (ys : List Str), x = .str a ∧ (y = .lst (ys.map .str) ∨ y = .tup (ys.map .str)) ∧ (ys.map (·.length)).sum + ys.length * a.length ≤ 16777216 ∧ k (.str (Txt.join a ys)) h
theorem de_join {o e : Expr} {wo we : W1} {apos pos : Pos} (ho : DE X o wo) (he : DE X e we) (hs : starEach [e] X.env = [(false, eval e X.env)] := by rfl) (hbase : attributeBase o "join" X.env (eval o X.env) = eval o X.env := by rfl) (hline : (apos.endLine == pos.line) = true := by rfl) :
    DE X (.Call (.Attribute o "join" apos) [e] [] pos) (wBin (fun x y h k => (∃ a, x = .str a) ∧ wJoin x y h k) (fun ρ h k => wo ρ h fun d h1 => (∃ a, d = .str a) ∧ k d h1) we) := by
  refine PE.imp (pe_join ho he hs hbase hline) fun σ H Q ⟨m, ρ, h, k, rs, rh, q, c⟩ => ⟨m, ρ, h, _, rs, rh, q, fun d h1 v m1 H1 s1 rh1 rd ⟨⟨a, ea⟩, q1⟩ => ?_⟩
  subst ea
  unfold RelD at rd; subst rd
  refine ⟨⟨a, rfl⟩, m1, ρ, h1, _, rs.step s1, rh1, q1, fun e h2 u m2 H2 s2 rh2 re ⟨_, b, ys, eb, hy, hz, q2⟩ => ?_⟩
  cases eb
  have fin : Q (.str (Txt.join a ys)) H2 := c (.str (Txt.join a ys)) h2 _ m2 H2 (s1.trans s2) rh2 (.strI _) q2
  rcases hy with rfl | rfl
  · unfold RelD at re
    obtain ⟨p, vs, rfl, ta, ra⟩ := re
    rw [rel_strs ra] at ta
    exact ⟨a, p, ys, rfl, rfl, .inl ta.sq, hz, fin⟩
  · unfold RelD at re
    obtain ⟨p, vs, rfl, ta, ra⟩ := re
    rw [rel_strs ra] at ta
    exact ⟨a, p, ys, rfl, rfl, .inr ta.sq, hz, fin⟩
end
end Vf

namespace Vf
open PySem PySem.Spec PyProof.Rows L2

/-! ### own defs -/
abbrev DSp := List D → DH → K1 → Prop
def spD (K : PySem.W.Frag) (n : Nat) (S : DSp) : Sp := fun vs H Q _ => ∃ m h ds k, RelH K m H h ∧ RelDs K m H ds vs ∧ ds.length = n ∧ S ds h k ∧ Fol K m H k Q
/-- the def st stands under the name x and keeps S -/
structure DFn (P : Program) (w : World) (K : PySem.W.Frag) (mg : Str → Option Value) (base : Heap) (n : Nat) (x qual : Str) (st : Stmt) (ps : List Str) (S : DSp) : Prop where
  ex : ∃ f fd, Fun K x qual st f fd ∧ mg x = some (.ref f) ∧ FnG P w K mg base CX0 n f fd ps (spD K ps.length S)
def startD (N : List Str) (ds : List D) : Rho := ds.map some ++ List.replicate (N.length - ds.length) none
theorem start_rel {K : PySem.W.Frag} {m : Lay} {H : Hp} {N : List Str} {ds : List D} {vs : List V} (r : RelDs K m H ds vs) : RelS K m H (start N vs) (startD N ds) := by
  have hl := r.length
  refine ⟨by simp [L2.start, startD, hl], fun i d e => ?_⟩
  unfold startD at e
  by_cases hi : i < ds.length
  · rw [List.getElem?_append_left (by simpa using hi), List.getElem?_map] at e
    cases hx : ds[i]? with
    | none => rw [hx] at e; cases e
    | some y =>
      rw [hx] at e; cases e
      obtain ⟨v, ev, rv⟩ := r.atD hx
      refine ⟨v, ?_, rv⟩
      unfold L2.start
      rw [List.getElem?_append_left (by simp; omega), List.getElem?_map, ev]; rfl
  · rw [List.getElem?_append_right (by simpa using hi), List.getElem?_replicate] at e
    split at e <;> cases e
theorem dfn_of {P : Program} {w : World} {K : PySem.W.Frag} {mg : Str → Option Value} {base : Heap} {n : Nat} {x qual : Str} {st : Stmt} {N ps : List Str} {S : DSp} {f : Addr} {fd : FuncData} (F : Fun K x qual st f fd) (hm : mg x = some (.ref f)) (Sc : FnScope N ps (defScope st))
    (hb : ∀ (cdv : Value) (A : Around) (ou : List Env) (s : Shared) (H : Hp) (E : XK), (A.deeper (envOfC qual (defScope st) s.heap.objs.size f cdv)).guards = some [] → Room n (A.deeper (envOfC qual (defScope st) s.heap.objs.size f cdv)) →
      ∃ ws, DSs (cxOf CX0 P w K mg base N qual (defScope st) f cdv A ou s H E).nox (defBody st) ws ∧ ∀ ds h k, ds.length = ps.length → S ds h k → ws { nx := fun _ h => k .non h, rt := k } (startD N ds) h) : DFn P w K mg base (n + 1) x qual st ps S := by
  obtain ⟨oc, od, kV, doc, pm, an, cdv, ct, osl, e, lk, hcd⟩ := F.ex
  refine ⟨f, fd, F, hm, ?_⟩
  subst e
  refine fnG_of lk hcd Sc (fun vs H Q E ⟨m, h, ds, k, rh, rd, hl, _⟩ => by rw [← rd.length]; exact hl) fun A ou s H vs Q E hg hr ⟨m, h, ds, k, rh, rd, hl, hS, fo⟩ => ?_
  obtain ⟨ws, hd, hw⟩ := hb cdv A ou s H E hg hr
  refine ⟨_, PSs.nox hd, m, startD N ds, h, _, start_rel rd, rh, hw ds h k hl hS, fun ρ' h' σ' m' H' s' rs' rh' q => fo .non h' .non m' H' s' rh' (by unfold RelD; rfl) q, fo, fun _ _ _ _ _ _ _ _ q => False.elim q, fun _ _ _ _ _ _ _ _ q => False.elim q⟩
/-- how arguments come to parameters: a keyword's place -/
structure KwB (K : PySem.W.Frag) (x qual : Str) (st : Stmt) (ps : List Str) (n : Nat) (ks : List Str) (g : {α : Type} → List α → List α → List α) : Prop where
  to : ∀ (kV doc pm : Value) (an : Option Addr) (cdv ct : Value) (us ws : List Value), us.length = n → ws.length = ks.length → bindArgs (PySem.W.fnOf x qual (defArgs st) (defBody st) (defScope st) .none kV doc pm an cdv ct) ⟨us, ks.zip ws⟩ = pure (ps.zip (g us ws))
  vals : ∀ {vs zs : List V} {us ws : List Value}, Vals vs us → Vals zs ws → vs.length = n → zs.length = ks.length → Vals (g vs zs) (g us ws)
  rel : ∀ {K : PySem.W.Frag} {m : Lay} {H : Hp} {ds es : List D} {vs zs : List V}, RelDs K m H ds vs → RelDs K m H es zs → ds.length = n → es.length = ks.length → RelDs K m H (g ds es) (g vs zs)
section
variable {X : Cx} {n j : Nat} {x qual : Str} {st : Stmt} {ps : List Str} {S : DSp} {p pos : Pos}
def wCall (n : Nat) (S : DSp) (w : WL) : W1 := fun ρ h k => w ρ h fun ds h1 => ds.length = n ∧ S ds h1 k
theorem de_call {e : Expr} {es : List Expr} {w : WL} (C : DFn X.prog X.w X.K X.mg X.base n x qual st ps S) (hgu : X.A.guards = some []) (hr : Room j X.A) (hj : n ≤ j)
    (hb : ∀ (kV doc pm : Value) (an : Option Addr) (cdv ct : Value) (us : List Value), us.length = ps.length → bindArgs (PySem.W.fnOf x qual (defArgs st) (defBody st) (defScope st) .none kV doc pm an cdv ct) ⟨us, []⟩ = pure (ps.zip us))
    (ha : DA X (e :: es) w) (hg : Gl X x := by rfl) (hdb : (x == ("__debug__" : Str)) = false := by decide) (he : starEach (e :: es) X.env = (false, eval e X.env) :: starEach es X.env := by rfl) (hpl : (backTo pos (starEach es X.env)).any (·.1) = false := by rfl) :
    DE X (.Call (.Name x p) (e :: es) [] pos) (wCall ps.length S w) := by
  obtain ⟨f, fd, F, hm, G⟩ := C.ex
  refine ⟨fun pins s σ H Q I ⟨m, ρ, h, k, rs, rh, q, fo⟩ => ?_⟩
  refine wpAny_Call_Name_kw (ld_glob I hg hm ?_ hdb)
  refine PySem.W.callWith_K (h₀ := X.base) I.ok.mod.kin F.kp (thn (ha.run pos pins s σ H (fun vs H1 => ∃ m1 h1 ds, Step m H m1 H1 ∧ RelH X.K m1 H1 h1 ∧ RelDs X.K m1 H1 ds vs ∧ ds.length = ps.length ∧ S ds h1 k) I
    ⟨m, ρ, h, _, rs, rh, q, fun ds h1 vs m1 H1 s1 rh1 rd q1 => ⟨m1, h1, ds, s1, rh1, rd, q1.1, q1.2⟩⟩) fun us s1 ⟨vs, H1, I1, rv, m1, h1, ds, st1, rh1, rd, hl, hS⟩ => ⟨I1.kIn, ?_⟩) he hpl
  have hlu : us.length = ps.length := by rw [← rv.length, ← rd.length]; exact hl
  exact runG (E := E0) (ws := us) G hgu (hr.mono hj) L2.pass0 I1 (F.binds hb s1 us I1.kIn (by simpa using hlu) |> fun z => by simpa using z) rv ⟨m1, h1, ds, k, rh1, rd, hl, hS, Fol.step fo st1⟩
theorem de_call0 (C : DFn X.prog X.w X.K X.mg X.base n x qual st [] S) (hgu : X.A.guards = some []) (hr : Room j X.A) (hj : n ≤ j)
    (hb : ∀ (kV doc pm : Value) (an : Option Addr) (cdv ct : Value) (us : List Value), us.length = 0 → bindArgs (PySem.W.fnOf x qual (defArgs st) (defBody st) (defScope st) .none kV doc pm an cdv ct) ⟨us, []⟩ = pure (([] : List Str).zip us))
    (hg : Gl X x := by rfl) (hdb : (x == ("__debug__" : Str)) = false := by decide) : DE X (.Call (.Name x p) [] [] pos) (wCall 0 S wNil) := by
  obtain ⟨f, fd, F, hm, G⟩ := C.ex
  refine ⟨fun pins s σ H Q I ⟨m, ρ, h, k, rs, rh, ⟨_, q⟩, fo⟩ => ?_⟩
  refine wpAny_Call_Name_kw (ld_glob I hg hm ?_ hdb)
  exact PySem.W.callWith_K0 I.kIn F.kp (runG (E := E0) (us := []) (ws := []) (vs := []) G hgu (hr.mono hj) L2.pass0 I (F.binds (ps := []) hb s [] I.kIn rfl |> fun z => by simpa using z) .nil ⟨m, h, [], k, rh, by unfold RelDs; rfl, rfl, q, fo⟩)
/-- keywords alone -/
def DK (X : Cx) (kws : List Keyword) (w : WL) : Prop := PK X kws (tDA X.K w)
theorem dk_nil : DK X [] wNil := ⟨fun pos pins s σ H Q I ⟨m, ρ, h, k, rs, rh, q, c⟩ => pk_nil.run pos pins s σ H Q I (c [] h [] m H (Step.refl m H) rh (by unfold RelDs; rfl) q)⟩
theorem dk_cons {e : Expr} {nm : Option Str} {kpos : Pos} {kws : List Keyword} {a : W1} {r : WL} (he : DE X e a) (hr : DK X kws r) : DK X (⟨nm, e, kpos⟩ :: kws) (wCons a r) :=
  ⟨fun pos pins s σ H Q I ⟨m, ρ, h, k, rs, rh, q, c⟩ => (pk_cons (nm := nm) (kpos := kpos) he hr).run pos pins s σ H Q I
    ⟨m, ρ, h, _, rs, rh, q, fun d h1 v m1 H1 s1 rh1 rd q1 => ⟨m1, ρ, h1, _, rs.step s1, rh1, q1, fun ds h2 vs m2 H2 s2 rh2 rds q2 =>
      c (d :: ds) h2 (v :: vs) m2 H2 (s1.trans s2) rh2 (by unfold RelDs; exact ⟨v, vs, rfl, rd.step s2, rds⟩) q2⟩⟩⟩
def wCallK (n : Nat) (S : DSp) (g : {α : Type} → List α → List α → List α) (w : WL) : W1 := fun ρ h k => w ρ h fun ds h1 => ds.length = n ∧ (g [] ds).length = n ∧ S (g [] ds) h1 k
theorem de_callK0 {kws : List Keyword} {ks : List Str} {w : WL} {g : {α : Type} → List α → List α → List α} (C : DFn X.prog X.w X.K X.mg X.base n x qual st ps S) (hgu : X.A.guards = some []) (hr : Room j X.A) (hj : n ≤ j) (hB : KwB X.K x qual st ps 0 ks g) (hlk : ks.length = ps.length)
    (hkw : DK X kws w) (hg : Gl X x := by rfl) (hall : (backToKw pos (keywordEach kws X.env)).all (·.1.isSome) = true := by rfl) (hks : (backToKw pos (keywordEach kws X.env)).filterMap (·.1) = ks := by rfl)
    (hdb : (x == ("__debug__" : Str)) = false := by decide) (hpl : ((backTo pos (starEach [] X.env)).any (·.1) || (backToKw pos (keywordEach kws X.env)).any (·.1.isNone)) = false := by rfl) : DE X (.Call (.Name x p) [] kws pos) (wCallK ps.length S g w) := by
  obtain ⟨f, fd, F, hm, G⟩ := C.ex
  obtain ⟨oc, od, kV, doc, pm, an, cdv, ct, osl, e, lk, hcd⟩ := F.ex
  refine ⟨fun pins s σ H Q I ⟨m, ρ, h, k, rs, rh, q, fo⟩ => ?_⟩
  refine wpAny_Call_Name_kw (ld_glob I hg hm ?_ hdb)
  refine PySem.W.callWith_KW0 (h₀ := X.base) I.ok.mod.kin F.kp hall (thn (hkw.run pos pins s σ H (fun vs H1 => ∃ m1 h1 ds, Step m H m1 H1 ∧ RelH X.K m1 H1 h1 ∧ RelDs X.K m1 H1 ds vs ∧ ds.length = ps.length ∧ (g [] ds).length = ps.length ∧ S (g [] ds) h1 k) I
    ⟨m, ρ, h, _, rs, rh, q, fun ds h1 vs m1 H1 s1 rh1 rd q1 => ⟨m1, h1, ds, s1, rh1, rd, q1⟩⟩) fun us s1 ⟨vs, H1, I1, rv, m1, h1, ds, st1, rh1, rd, hl, hl2, hS⟩ => ⟨I1.kIn, ?_⟩) hpl
  rw [hks]
  have hlu : us.length = ks.length := by rw [← rv.length, ← rd.length, hl]; exact hlk.symm
  subst e
  exact runG (E := E0) (us := []) (ws := g [] us) (vs := g [] vs) G hgu (hr.mono hj) L2.pass0 I1 (.of_eq (hB.to kV doc pm an cdv ct [] us rfl hlu)) (hB.vals .nil rv rfl (by rw [← rd.length, hl]; exact hlk.symm)) ⟨m1, h1, g [] ds, k, rh1, hB.rel (by unfold RelDs; rfl) rd rfl (by rw [hl]; exact hlk.symm), hl2, hS, Fol.step fo st1⟩
end

/-! ### the law -/
theorem lawG {P : Program} {w : World} {K : PySem.W.Frag} {mg mb : Str → Option Value} {n : Nat} {fa a : Addr} {fd : FuncData} {x : Str} {sp : Sp} {s₁ : Shared} {vs : List Value} {ns : List Int}
    (KX : K.In s₁.heap) (nsG : s₁.heap.Ns mainGlobals mg) (nsB : s₁.heap.Ns builtinsNs mb) (hbb : ∀ x : Str, x ≠ "__name__" → mb x = bootBuiltins x) (lim : s₁.heap.NoLimit) (hg : s₁.gens = #[])
    (ha : s₁.heap.get? a = some { cls := .type "list", data := .seq vs.toArray }) (hi : IntsAre vs ns) (hl : ns.length ≤ sizeLine) (hr : Room n callerA)
    (F : ∀ base : Heap, K.In base → base.Ns mainGlobals mg → FnG P w K mg base CX0 n fa fd [x] sp) (hbind : ∀ (s : Shared) (u : Value), BindsTo s fd ⟨[u], []⟩ [(x, u)])
    (hsp : ∀ H : Hp, Only H → ((∃ o, H a = some (.frz o (.lst (ns.map V.int)))) ∨ ∀ H', SqL K H' a (ns.map V.int)) → sp [.ref a] H (fun v _ => v = .bl true) fun _ _ _ => False) :
    codeAny (model P w) callerA (.call (.ref fa) ⟨[.ref a], []⟩) (fun r s' => r = .ok (.ret (.bool true)) ∧ OldK s₁.heap s'.heap ∧ s'.os = s₁.os ∧ AllBare s'.gens) s₁ := by
  have rv := vals_ints hi
  have lv := hi.length
  have core : ∀ H : Hp, Only H → ((∃ o, H a = some (.frz o (.lst (ns.map V.int)))) ∨ ∀ H', SqL K H' a (ns.map V.int)) → HOk P w H s₁.heap → (∀ b, H b ≠ none → b = a) → (H a ≠ none → K.lookup a = none) →
      codeAny (model P w) callerA (.call (.ref fa) ⟨[.ref a], []⟩) (fun r s' => r = .ok (.ret (.bool true)) ∧ OldK s₁.heap s'.heap ∧ s'.os = s₁.os ∧ AllBare s'.gens) s₁ := by
    intro H hO hS hok only hK
    have isA : ∀ {b : Addr} {u : HO}, H b = some u → b = a := fun {b u} q => only b (by rw [q]; simp)
    have free : ∀ {b : Addr} {o : Obj} {es : Array DictEntry} {ep : Nat}, s₁.heap.get? b = some o → o.data = .dict es ep → H b = none := by
      intro b o es ep e d
      rcases hx : H b with _ | u
      · rfl
      · have := isA hx; subst this
        rw [ha] at e; cases e
        exact absurd d (by simp)
    have nsK : ∀ {b : Addr} {m : Str → Option Value}, s₁.heap.Ns b m → (hidT s₁.heap H).Ns b m := by
      rintro b m ⟨o, es, ep, e, d, r⟩
      exact ⟨o, es, ep, hidT_get e (free e d), d, r⟩
    have kB : K.In (hidT s₁.heap H) := by
      intro b o e
      refine hidT_get (KX b o e) ?_
      rcases hx : H b with _ | u
      · rfl
      · have := isA hx; subst this
        rw [hK (by rw [hx]; simp)] at e; cases e
    have hM : Mod K mg (hidT s₁.heap H) := by
      obtain ⟨mc, h1, h2⟩ := lim
      exact ⟨kB, nsK nsG, ⟨mb, nsK nsB, hbb⟩, ⟨mc, nsK h1, h2⟩⟩
    have e0 : Env0 P w K mg (hidT s₁.heap H) callerA [] s₁ H :=
      ⟨rfl, hM, fun b o e => of_hidT e, by rw [hidT_size]; exact Nat.le_refl _, trivial, fun b hb => absurd (show b ∈ ([] : List Addr) from hb) (by simp), hok, .of_eq hg⟩
    refine codeAny_mono ((F _ kB (nsK nsG)).go callerA [] s₁ H ⟨[.ref a], []⟩ [.ref a] [.ref a] _ _ rfl hr e0 (hbind s₁ (.ref a)) (.cons rfl .nil) (hsp H hO hS)) (fun r s' z => ?_)
    rcases r with er | fl
    · exact False.elim z
    · cases fl with
      | next => exact False.elim z
      | brk => exact False.elim z
      | cont => exact False.elim z
      | ret u =>
        obtain ⟨v, H', os, bare, un, hok', r', q⟩ := z
        have q1 : v = .bl true := q
        subst q1
        have r1 : u = Value.bool true := r'
        subst r1
        refine ⟨rfl, OldK.of_keep (fun b o e => ?_), os, bare⟩
        rcases hx : H b with _ | t
        · exact un.keep b o e hx (fun z => absurd (show b ∈ ([] : List Addr) from z) (by simp)) (by simp)
        · obtain y | ⟨ob, xs, y⟩ := hO b
          · rw [hx] at y; cases y
          · have y2 := un.frzs b ob _ y
            have e1 := (hok b _ y).1
            rw [e] at e1; cases e1
            exact (hok' b _ y2).1
  rcases hk : K.lookup a with _ | o
  · refine core (fun b => if b = a then some (.frz { cls := .type "list", data := .seq vs.toArray } (.lst (ns.map V.int))) else none) (fun b => ?_) (.inl ⟨_, if_pos rfl⟩) (fun b u z => ?_) (fun b z => ?_) (fun _ => hk)
    · by_cases hb : b = a
      · exact .inr ⟨_, _, if_pos hb⟩
      · exact .inl (if_neg hb)
    · by_cases hb : b = a
      · have y := (if_pos hb).symm.trans z
        cases y
        rw [hb]
        exact ⟨ha, by rw [List.length_map]; exact hl, vs, _, rv, ha⟩
      · have y := (if_neg hb).symm.trans z
        cases y
    · exact Classical.byContradiction fun hb => z (if_neg hb)
  · have e := KX a o hk
    rw [ha] at e
    cases e
    refine core (fun _ => none) (fun _ => .inl rfl) (.inr fun H' => .inr ⟨_, vs.toArray, _, hk, rfl, rfl, rfl, by rw [List.size_toArray, lv]; exact hl, by simpa using rv⟩) (fun b u z => nomatch (show (none : Option HO) = some u from z)) (fun b z => absurd rfl z) (fun z => absurd rfl z)
theorem walkG {l : PySem.W.OpenLaw} {n k : Nat} {q : Program} {loose : List Str} {XP : (Str → Option Value) → Heap → Prop} {YP : World → Heap → Prop} {d : DefRec} {K : Params → PySem.W.Frag} {st : Stmt} {x : Str} {S : DSp}
    (hn : l.most = some n) (hn2 : n ≤ sizeLine) (hdf : d.params.defaults = []) (hr : Room k callerA) (hY : ∀ (w : World) (h : Heap), YP w h → (K w.params).In h)
    (hb : ∀ (kV doc pm : Value) (an : Option Addr) (cdv ct : Value) (u : Value), bindArgs (PySem.W.fnOf d.name d.name (defArgs st) (defBody st) (defScope st) .none kV doc pm an cdv ct) ⟨[u], []⟩ = pure [(x, u)])
    (hS : ∀ (ns : List Int) (k : K1), ns.length ≤ n → (∀ h, k (.bl true) h) → S [.rol (ns.map .int)] [] k)
    (F : ∀ (w : World) (mg : Str → Option Value) (fa : Addr) (h : Heap), (K w.params).In h → h.Ns mainGlobals mg → mg d.name = some (.ref fa) →
      ∃ fd, Fun (K w.params) d.name d.name st fa fd ∧ ∀ base : Heap, (K w.params).In base → base.Ns mainGlobals mg → DFn l.prog w (K w.params) mg base k d.name d.name st [x] S) :
    PySem.W.WalkO q loose XP YP l.row.toRowW d [] (fun f vs => PySem.call f vs) := by
  refine Att.attach_call hn hdf fun w s₀ s₁ mg mb fa o pm cd doc a vs ns G Y ho hd hcd hmg hobj hints hlen hg => ?_
  have KX := hY w _ Y
  obtain ⟨fd, Fu, hF⟩ := F w mg fa _ KX G.T.g hmg
  obtain ⟨oc, od, kV, doc', pm', an, cdv, ct, osl, efd, lk, hcd'⟩ := Fu.ex
  refine lawG (fd := fd) (sp := spD (K w.params) 1 S) (x := x) KX G.T.g G.T.b G.T.builtins G.T.nolimit hg hobj hints (Nat.le_trans hlen hn2) hr (fun base h1 h2 => ?_) (fun s u => by rw [efd]; exact .of_eq (hb kV doc' pm' an cdv ct u)) fun H hO hS' => ?_
  · obtain ⟨f, fd', F', hm', G'⟩ := (hF base h1 h2).ex
    have e1 : f = fa := by
      have := hmg.symm.trans hm'
      cases this; rfl
    subst e1
    obtain ⟨oc2, od2, kV2, doc2, pm2, an2, cdv2, ct2, osl2, efd2, lk2, _⟩ := F'.ex
    rw [lk] at lk2
    cases lk2
    exact G'
  · refine ⟨⟨[], []⟩, [], [.rol (ns.map .int)], fun v _ => v = .bl true, ⟨rfl, by simp, by simp, by simp, by simp⟩, ?_, rfl, hS ns _ hlen fun _ => rfl, fun d h' v m' H' _ _ rd e => ?_⟩
    · unfold RelDs RelDs
      refine ⟨.ref a, [], rfl, ?_, rfl⟩
      unfold RelD
      refine ⟨a, ns.map V.int, rfl, ?_, ints_rel ns⟩
      rcases hS' with ⟨o, e⟩ | e
      · exact .inl ⟨fun z => by rcases z with z | z <;> simp at z, .inr ⟨o, e⟩⟩
      · exact .inr e
    · subst e
      unfold RelD at rd
      exact rd
end Vf

namespace Vf
open PySem PySem.Spec PyProof.Rows L2

section
variable {P : Program} {w : World} {h h' : Heap} {a : Addr} {S : Str → Bool} {n : Nat}
theorem SetX.same {S' : Str → Bool} {n' : Nat} (R : SetX w h a S n) (e : ∀ k, S k = S' k) (en : n = n') : SetX w h a S' n' := by
  have := funext e
  subst this en; exact R
theorem txt_elems {l : List (Int × Value)} (g : ∀ e ∈ l, TxtE w e) : ElemsOf (strKind P w) l := by
  intro e he
  obtain ⟨k, tk, e1, e2⟩ := g e he
  refine ⟨⟨k, ?_, e2⟩, ?_⟩
  · rw [e1]; exact strKind_is P w k tk
  · rw [e1]; rfl
theorem txt_is {e : Int × Value} (g : TxtE w e) (k : Str) : (strKind P w).is k e.2 = true ↔ txtOf e = k := by
  obtain ⟨j, tk, e1, _⟩ := g
  unfold txtOf
  rw [e1]
  constructor
  · intro q
    exact ((strKind P w).inj _ _ _ (strKind_is P w j tk) q)
  · intro q
    rw [← q]; exact strKind_is P w j tk
theorem txt_mem {l : List (Int × Value)} (g : ∀ e ∈ l, TxtE w e) (k : Str) : k ∈ l.map txtOf ↔ ∃ e ∈ l, (strKind P w).is k e.2 = true := by
  simp only [List.mem_map]
  exact ⟨fun ⟨e, he, q⟩ => ⟨e, he, (txt_is (g e he) k).2 q⟩, fun ⟨e, he, q⟩ => ⟨e, he, (txt_is (g e he) k).1 q⟩⟩
theorem SetX.gen (R : SetX w h a S n) : h.SetOf (strKind P w) a S n := by
  obtain ⟨ob, es, ep, t, ho, hx, hd, g, nd, hm, hb, hf, hn, _⟩ := R
  exact ⟨ob, es, ep, t, ho, hx, hd, txt_elems g, fun k => (hm k).trans (txt_mem g k), hb, hf, hn⟩
end
section
variable {P : Program} {w : World} {A : Around} {E : Value → Shared → Prop} {s : Shared} {a : Addr} {S : Str → Bool} {n : Nat}
theorem addX_tail {g : Bool → Sem Unit} (hg : ∀ (b : Bool) (s₁ : Shared) (Q' : Unit → Shared → Prop), Q' () s₁ → wpAny (model P w) A (g b) Q' E s₁)
    {ob : Obj} {es : Array (Int × Value)} {ep : Nat} {t : SetTable} (ho : s.heap.get? a = some ob) (hex : ob.ExactSet) (hd : ob.data = .set es ep t)
    {fs : Array (Int × Value)} {u : SetTable} {S' : Str → Bool} (g1 : ∀ e ∈ fs.toList, TxtE w e) (nd1 : (fs.toList.map txtOf).Nodup) (m1 : ∀ k, S' k = true ↔ k ∈ fs.toList.map txtOf)
    (hb1 : fs.size < scanBound) (hf2 : u.fits fs.size = true) (hr : Ris u.place.toList) (hl : w.params.followText "set-order" = true ∨ u.led = true) {wd : Bool} {R : Option Bool → Shared → Prop}
    (hR : ∀ h', Heap.SameBut a s.heap h' → SetX w h' a S' fs.size → R (some true) { s with heap := h' }) :
    wpAny (model P w) A (do
        storeSet a fs u
        if (!wd && u.tooFull) = true then do
            g (relayAll u fs (SetTable.grown fs.size)).2.2
            storeSet a (relayAll u fs (SetTable.grown fs.size)).1 (relayAll u fs (SetTable.grown fs.size)).2.1
            pure (some true)
          else pure (some true)) R E s := by
  refine wpAny_bind (wpAny_storeSet_of ho hd ?_ (fits_of_scanBound hb1))
  have k1 := store_at (es' := fs) (t' := u) ho hd
  have sb := Heap.SameBut.update s.heap a (Obj.putSet fs u)
  by_cases hc : (!wd && u.tooFull) = true
  · rw [if_pos hc]
    have pm := relayAll_perm u fs (SetTable.grown fs.size)
    have f3 := relayAll_fits u fs (SetTable.grown fs.size)
    have r3 := relayAll_ris u fs (SetTable.grown fs.size)
    have l3 := relayAll_led u fs (SetTable.grown fs.size)
    generalize relayAll u fs (SetTable.grown fs.size) = Z at pm f3 r3 l3 ⊢
    rcases Z with ⟨gs, t3, gv⟩
    dsimp only at pm f3 r3 l3 ⊢
    have sz : gs.size = fs.size := by
      have := pm.length_eq
      simpa using this
    have b2 : gs.size < scanBound := sz ▸ hb1
    refine wpAny_bind (hg _ _ _ ?_)
    refine wpAny_bind (wpAny_storeSet_of k1 rfl ?_ (fits_of_scanBound b2))
    have k2 := store_at (es' := gs) (t' := t3) k1 rfl
    refine wpAny_pure (hR _ (sb.trans (Heap.SameBut.update _ a _)) ⟨_, gs, _, t3, k2, hex, rfl, fun e he => g1 e (pm.mem_iff.mp he), (pm.map txtOf).nodup_iff.mpr nd1, fun k => (m1 k).trans (pm.map txtOf).mem_iff.symm, b2, f3, sz, r3, ?_⟩)
    rcases hl with hl | hl
    · exact .inl hl
    · exact .inr (l3.trans hl)
  · rw [if_neg hc]
    exact wpAny_pure (hR _ sb ⟨_, fs, _, u, k1, hex, rfl, g1, nd1, m1, hb1, hf2, rfl, hr, hl⟩)
theorem addX {k : Str} {tk : Tok} {Q : Bool → Shared → Prop} (R : SetX w s.heap a S n) (room : n + 1 < scanBound)
    (hQ : ∀ h', Heap.SameBut a s.heap h' → SetX w h' a (fun j => S j || decide (j = k)) (if S k = true then n else n + 1) → Q (!S k) { s with heap := h' }) :
    wpAny (model P w) A (setAddHashed a (.str k tk) ((strKind P w).hash k)) Q E s := by
  obtain ⟨ob, es, ep, t, ho, hex, hd, g, nd, hm, hb, hf, hn, hr, hl⟩ := R
  have hkey : (strKind P w).is k (.str k tk) = true := strKind_is P w k tk
  have hsc : (Value.str k tk).scannable = true := rfl
  have hel : ElemsOf (strKind P w) es.toList := txt_elems g
  unfold setAddHashed setAddHashedIn
  refine wpAny_holding (wpAny_bind (wpAny_setState_of ho hd hf ?_))
  dsimp only
  rw [byScan_of hsc hb hel]
  simp only [↓reduceIte]
  unfold setAddByScan
  refine wpAny_bind ?_
  refine wpAny_bind (wpAny_rule ?_)
  refine wpAny_bind (wpAny_setScan_of hkey ho hd hf hel ?_)
  cases hfi : List.findIdx? (fun e => (strKind P w).is k e.2) es.toList with
  | some j =>
    dsimp only
    obtain ⟨hj, pj, _⟩ := List.findIdx?_eq_some_iff_getElem.mp hfi
    have hk : S k = true := (hm k).2 ((txt_mem (P := P) g k).2 ⟨_, List.getElem_mem hj, pj⟩)
    refine wpAny_pure (wpAny_pure ?_)
    have q := hQ s.heap (Heap.SameBut.refl a s.heap) ⟨ob, es, ep, t, ho, hex, hd, g, nd, fun i => by
      rw [Bool.or_eq_true, decide_eq_true_eq, ← hm i]
      exact ⟨fun z => z.elim id (fun e => e ▸ hk), .inl⟩, hb, hf, by rw [if_pos hk]; exact hn, hr, hl⟩
    rw [hk] at q
    exact q
  | none =>
    dsimp only
    have nk : k ∉ es.toList.map txtOf := fun z => by
      obtain ⟨e, he, q⟩ := (txt_mem (P := P) g k).1 z
      have c := List.findIdx?_eq_none_iff.mp hfi e he
      rw [q] at c; cases c
    have hk : S k = false := by
      cases q : S k with
      | false => rfl
      | true => exact absurd ((hm k).1 q) nk
    have hgw : ∀ (b : Bool) {s₁ : Shared} {Q' : Unit → Shared → Prop}, Q' () s₁ → wpAny (model P w) A (match b with | true => rule "set.scan.the-table-gave-way" | false => pure ()) Q' E s₁ := by
      intro b s₁ Q' q
      cases b
      · exact wpAny_pure q
      · exact wpAny_rule q
    have pm := layNew_perm t es ((strKind P w).hash k) (.str k tk)
    have f1 := layNew_fits t es ((strKind P w).hash k) (.str k tk)
    have r1 := layNew_ris t es ((strKind P w).hash k) (.str k tk) hr
    have l1 := layNew_led t es ((strKind P w).hash k) (.str k tk)
    generalize layNew t es ((strKind P w).hash k) (.str k tk) = Z at pm f1 r1 l1 ⊢
    rcases Z with ⟨fs, u, wd, gv⟩
    dsimp only at pm f1 r1 l1 ⊢
    rw [Array.toList_push] at pm
    have pc : fs.toList.Perm (((strKind P w).hash k, Value.str k tk) :: es.toList) := pm.trans (List.perm_append_singleton _ _)
    have pk : (fs.toList.map txtOf).Perm (k :: es.toList.map txtOf) := pc.map txtOf
    have g1 : ∀ e ∈ fs.toList, TxtE w e := by
      intro e he
      rcases List.mem_cons.mp (pc.mem_iff.mp he) with z | z
      · rw [z]; exact ⟨k, tk, rfl, rfl⟩
      · exact g e z
    have m1 : ∀ i, (S i || decide (i = k)) = true ↔ i ∈ fs.toList.map txtOf := by
      intro i
      rw [Bool.or_eq_true, decide_eq_true_eq, hm i, pk.mem_iff, List.mem_cons]
      exact Or.comm
    have sz : fs.size = n + 1 := by
      have := pc.length_eq
      simp only [List.length_cons, Array.length_toList] at this
      omega
    have b1 : fs.size < scanBound := by rw [sz]; exact room
    have hled : w.params.followText "set-order" = true ∨ u.led = true := hl.imp id fun z => l1.trans z
    have fin : ∀ h', Heap.SameBut a s.heap h' → SetX w h' a (fun j => S j || decide (j = k)) fs.size → Q true { s with heap := h' } := by
      intro h' sb r
      have q := hQ h' sb
      rw [hk] at q
      rw [sz] at r
      exact q r
    have nd1 : (fs.toList.map txtOf).Nodup := pk.nodup_iff.mpr (List.nodup_cons.mpr ⟨nk, nd⟩)
    refine wpAny_bind (hgw _ ?_)
    split
    · refine wpAny_bind ?_
      rw [hashByValue_scannable 8 hsc]
      refine wpAny_pure ?_
      refine addX_tail ?_ ho hex hd g1 nd1 m1 b1 ?_ ?_ ?_ ?_
      · intro b s₁ Q' q; exact hgw b q
      · first | (split <;> first | exact f1 | exact SetTable.fits_plain_off f1) | exact f1
      · first | (split <;> exact r1) | exact r1
      · first | (split <;> exact hled) | exact hled
      · intro h' sb r; dsimp only; exact wpAny_pure (fin h' sb r)
    · refine wpAny_bind (wpAny_pure ?_)
      simp only [↓reduceIte]
      refine addX_tail ?_ ho hex hd g1 nd1 m1 b1 f1 r1 hled ?_
      · intro b s₁ Q' q; exact hgw b q
      · intro h' sb r; dsimp only; exact wpAny_pure (fin h' sb r)
/-- how many unlike texts -/
def distS (xs : List Str) : List Str := xs.foldl (fun acc x => if x ∈ acc then acc else acc ++ [x]) []
theorem distS_snoc (xs : List Str) (x : Str) : distS (xs ++ [x]) = if x ∈ distS xs then distS xs else distS xs ++ [x] := by
  unfold distS; rw [List.foldl_append]; rfl
theorem revInd {α : Type} {M : List α → Prop} (h0 : M []) (h1 : ∀ xs x, M xs → M (xs ++ [x])) (xs : List α) : M xs := by
  rw [← List.reverse_reverse xs]
  induction xs.reverse with
  | nil => exact h0
  | cons y ys ih => rw [List.reverse_cons]; exact h1 _ _ ih
theorem mem_distS (x : Str) : ∀ xs : List Str, x ∈ distS xs ↔ x ∈ xs := by
  refine revInd (by simp [distS]) fun xs y ih => ?_
  rw [distS_snoc]
  split
  · rename_i h
    rw [ih, List.mem_append, List.mem_singleton]
    constructor
    · exact .inl
    · rintro (z | z)
      · exact z
      · rw [z] at ih ⊢; exact ih.mp h
  · rw [List.mem_append, List.mem_append, ih]
theorem distS_len : ∀ xs : List Str, (distS xs).length ≤ xs.length := by
  refine revInd (by simp [distS]) fun xs y ih => ?_
  rw [distS_snoc]
  split <;> simp <;> omega
theorem distS_nodup : ∀ xs : List Str, (distS xs).Nodup := by
  refine revInd (by simp [distS]) fun xs y ih => ?_
  rw [distS_snoc]
  split
  · exact ih
  · rename_i h
    rw [List.nodup_append]
    exact ⟨ih, by simp, fun a ha b hb e => by rw [List.mem_singleton.mp hb] at e; exact h (e ▸ ha)⟩
theorem dist_in (l : List Str) (x j : Str) : (decide (j ∈ distS l) || decide (j = x)) = decide (j ∈ distS (l ++ [x])) := by
  have e1 := mem_distS j l
  have e2 := mem_distS j (l ++ [x])
  rw [Bool.eq_iff_iff]
  simp only [Bool.or_eq_true, decide_eq_true_eq, e1, e2, List.mem_append, List.mem_singleton]
theorem dist_len (l : List Str) (x : Str) : (if decide (x ∈ distS l) = true then (distS l).length else (distS l).length + 1) = (distS (l ++ [x])).length := by
  rw [distS_snoc]
  by_cases h : x ∈ distS l
  · rw [if_pos h, if_pos (by simpa using h)]
  · rw [if_neg h, if_neg (by simpa using h), List.length_append]; rfl
theorem loopX {R : Result → Shared → Prop} {I : Addr} {fp wr : List Addr} {G : Array GenState → Array GenState → Prop} {n : Nat} {Pv : Nat → Value → Prop} {St : Nat → Shared → Prop} (W : WalksS P w A.in1 I fp wr G n Pv St) (T : Addr) (hT : T ∉ fp) (xs : List Str) (hsz : xs.length = n) (hb : n + 1 < scanBound)
    (hval : ∀ i v, Pv i v → ∃ t, v = .str (xs.getD i Str.empty) t) :
    ∀ (k i : Nat) (s : Shared), n - i = k → i ≤ n → St i s → SetX w s.heap T (fun j => decide (j ∈ distS (xs.take i))) (distS (xs.take i)).length →
      (∀ s', Moved (T :: wr) G s s' → SetX w s'.heap T (fun j => decide (j ∈ distS (xs.take n))) (distS (xs.take n)).length → R (.ok (.ret .none)) s') →
      codeAny (model P w) A (.builtin "set.update.loop" ⟨[.ref T, .ref I], []⟩) R s := by
  have nw : T ∉ wr := fun z => hT (W.sub _ z)
  have up : ∀ b ∈ wr, b ∈ T :: wr := fun b z => List.mem_cons_of_mem _ z
  intro k
  induction k with
  | zero =>
    intro i s hk hi hst hS hR
    obtain rfl : i = n := by omega
    refine codeAny_builtin PyProof.Rows.F.entry_set_update_loop ?_
    rw [Around.under_plainId PyProof.Rows.F.plain_set_update_loop _]
    show wpAny _ A.in1 (pyNext (.ref I) >>= _) _ _ s
    refine wpAny_bind (W.done s _ _ hst (fun s' hm => ?_))
    show wpAny _ A.in1 (ret Value.none) _ _ s'
    exact wpAny_pure (hR s' (hm.mono up) (hS.keep fun o ho => hm.heap T o nw ho))
  | succ k ih =>
    intro i s hk hi hst hS hR
    have lt : i < n := by omega
    refine codeAny_builtin PyProof.Rows.F.entry_set_update_loop ?_
    rw [Around.under_plainId PyProof.Rows.F.plain_set_update_loop _]
    show wpAny _ A.in1 (pyNext (.ref I) >>= _) _ _ s
    refine wpAny_bind (W.item i s _ _ lt hst (fun v s' hP hst' hm => ?_))
    obtain ⟨t, rfl⟩ := hval i v hP
    have hS' := hS.keep (h' := s'.heap) fun o ho => hm.heap T o nw ho
    show wpAny _ A.in1 (holding [Value.str (xs.getD i Str.empty) t] (setAdd T (.str (xs.getD i Str.empty) t)) >>= _) _ _ s'
    refine wpAny_bind (wpAny_holding ?_)
    unfold setAdd
    refine wpAny_holding ?_
    refine wpAny_bind ((strKind P w).pyHash (k := xs.getD i Str.empty) (strKind_is _ _ _ _) ?_)
    have le := distS_len (xs.take i)
    have lt2 : (xs.take i).length ≤ i := by simp; omega
    refine addX (s := { s' with toks := s'.toks + 1 }) hS' (by omega) (fun h' sb r => ?_)
    have hx : xs.take (i + 1) = xs.take i ++ [xs.getD i Str.empty] := by
      have hl : i < xs.length := by omega
      rw [List.take_add_one, List.getElem?_eq_getElem hl, List.getD_eq_getElem?_getD, List.getElem?_eq_getElem hl]; rfl
    have r2 : SetX w h' T (fun j => decide (j ∈ distS (xs.take (i + 1)))) (distS (xs.take (i + 1))).length := by
      rw [hx]
      exact r.same (fun j => dist_in _ _ j) (dist_len _ _)
    refine wpAny_pure ⟨plainId_quiet PyProof.Rows.F.plain_set_update_loop _, ih (i + 1) _ (by omega) lt (W.frame _ s' _ _ hst' (Nat.le_succ _) (fun b hb o e => ?_)) r2 (fun s2 hm2 hS2 => ?_)⟩
    · rw [sb.2 b (fun z : b = T => hT (by rw [← z]; exact hb))]; exact e
    · refine hR s2 (Moved.trans W.gtrans ((hm.mono up).then_heap (Nat.le_succ _) (fun b o hb e => ?_)) hm2) hS2
      rw [sb.2 b (fun z : b = T => hb (by rw [z]; exact List.mem_cons_self))]; exact e
theorem newX (x : Value) {Q₁ : Value → Shared → Prop}
    (h : Q₁ (.ref s.heap.objs.size) { s with heap := s.heap.push { cls := .type "set", dict := none, data := .set #[] 0 (.fresh 0 0 (!w.params.followText "set-order")) } }) :
    codeAny (model P w) A (.call (.builtin "set.__new__") ⟨[.type "set", x], []⟩) (wants Q₁ E) s := by
  refine codeAny_of_tree ?_
  show wpAny _ A.in1 (do
    checkBuiltinCall "set.__new__" ⟨[.type "set", x], []⟩
    again (.builtin "set.__new__" ⟨[.type "set", x], []⟩)) _ _ s
  refine wpAny_bind (wpAny_of_eq (PySem.F.newCall_set_1 x) (wpAny_pure ⟨plainId_quiet PySem.F.plain_set_new _, codeAny_builtin PySem.F.entry_set_new ?_⟩))
  rw [Around.under_plainId PySem.F.plain_set_new _]
  unfold Builtin.«set.__new__» Builtin.Frozenset.newClass
  have hsub := sub_set_self
  obtain ⟨hp, g, d, tk, os⟩ := s
  dsimp only
  wp_walk
  refine wpAny_askSetting (wpAny_pure ?_)
  dsimp only
  simp only [newObj]
  exact wpAny_bind (wpAny_alloc (wpAny_pure (wpAny_pure h)))
theorem txt_at : ∀ {us : List Value} {ys : List Str}, StrsAre us ys → ∀ (i : Nat) (v : Value), us[i]? = some v → ∃ t, v = .str (ys.getD i Str.empty) t
  | _, _, .nil, i, v, e => by simp at e
  | _, _, .cons y t r, 0, v, e => by
    simp only [List.getElem?_cons_zero, Option.some.injEq] at e
    exact ⟨t, e.symm⟩
  | _, _, .cons y t r, i + 1, v, e => by
    simp only [List.getElem?_cons_succ] at e
    exact txt_at r i v e
theorem freshX {h : Heap} (w : World) : SetX w (h.push { cls := .type "set", dict := none, data := .set #[] 0 (.fresh 0 0 (!w.params.followText "set-order")) }) h.objs.size (fun j => decide (j ∈ distS [])) 0 := by
  refine ⟨_, #[], 0, _, Heap.get?_push_size _ rfl, ⟨rfl, rfl, rfl⟩, rfl, fun e he => by simp at he, by simp, fun k => by simp [distS], by decide, by rfl, rfl, List.Pairwise.nil, ?_⟩
  show _ ∨ (!w.params.followText "set-order") = true
  cases w.params.followText "set-order"
  · exact .inr rfl
  · exact .inl rfl

set_option maxHeartbeats 3200000 in
theorem callX_list {l : Addr} {items : Array Value} {xs : List Str} {Q : Value → Shared → Prop} (hh : A.handled = none) (hl : s.heap.IsList l items) (hi : StrsAre items.toList xs) (hb : xs.length + 1 < scanBound)
    (fin : ∀ (h' : Heap) (tk : Nat), SetX w h' s.heap.objs.size (fun j => decide (j ∈ distS xs)) (distS xs).length → (∀ b o, s.heap.get? b = some o → h'.get? b = some o) → Q (.ref s.heap.objs.size) { s with heap := h', toks := tk }) :
    wpAny (model P w) A (call (.type "set") [.ref l]) Q E s := by
  obtain ⟨c, tl, hmro⟩ := PySem.F.called_set.mro
  have hmade := PySem.F.called_set.made
  have hsub := PySem.F.called_set.sub
  refine wpAny_call (codeAny_of_tree ?_)
  show wpAny _ _ (callAny (.type "set") _) _ _ _
  refine wpAny_pure ⟨Code.quiet_builtin _ (by decide +kernel), codeAny_builtin PySem.F.entry_type_call ?_⟩
  rw [Around.under_plain (weight_type_call_type "set" [.ref l] []) rfl]
  have h1 := PySem.F.called_set.notType
  have h2 := PySem.F.called_set.canCreate
  have hct := PySem.F.typeCall_set_1 (.ref l)
  repeat (any_goals (first | assumption | wp_step))
  refine codeAny_mono (newX (.ref l) (E := E) (Q₁ := fun ob s₁ => ob = .ref s.heap.objs.size ∧
    s₁ = { s with heap := s.heap.push { cls := .type "set", dict := none, data := .set #[] 0 (.fresh 0 0 (!w.params.followText "set-order")) } }) ⟨rfl, rfl⟩) (fun r s1 hr => ?_)
  have hX : SetX w (s.heap.push { cls := .type "set", dict := none, data := .set #[] 0 (.fresh 0 0 (!w.params.followText "set-order")) }) s.heap.objs.size (fun j => decide (j ∈ distS [])) 0 := freshX w
  cases r with
  | error e => exact hr
  | ok fl =>
    cases fl with
    | ret obj =>
      obtain ⟨rfl, rfl⟩ := hr
      have hS : (s.heap.push { cls := .type "set", dict := none, data := .set #[] 0 (.fresh 0 0 (!w.params.followText "set-order")) }).get? s.heap.objs.size = some { cls := .type "set", dict := none, data := .set #[] 0 (.fresh 0 0 (!w.params.followText "set-order")) } := Heap.get?_push_size _ rfl
      have hT : Shared.TypeIs { s with heap := s.heap.push { cls := .type "set", dict := none, data := .set #[] 0 (.fresh 0 0 (!w.params.followText "set-order")) } } (.ref s.heap.objs.size) "set" := ⟨_, hS, rfl⟩
      have hli := PySem.F.called_set.init.lookup
      have hbi := PySem.F.called_set.init.bind (.ref s.heap.objs.size)
      repeat (any_goals (first | assumption | wp_step))
      refine codeAny_mono (codeAny_call_builtin (R := wants (fun r s₂ => r = .none ∧ ∃ h' tk, s₂ = { s with heap := h', toks := tk } ∧ SetX w h' s.heap.objs.size (fun j => decide (j ∈ distS xs)) (distS xs).length ∧
          (∀ b o, s.heap.get? b = some o → h'.get? b = some o)) E) PySem.F.called_set.init.plain PySem.F.entry_set_init (check_set_init_1 hT ?_)) (fun r₂ s₂ hr₂ => ?_)
      · obtain ⟨ol, hol, hcl, nl, hdl⟩ := hl
        obtain ⟨ocls, odict, odata, oslots⟩ := ol
        simp only at hcl hdl
        subst hcl; subst hdl
        have hol' : (s.heap.push { cls := .type "set", dict := none, data := .set #[] 0 (.fresh 0 0 (!w.params.followText "set-order")) }).get? l = some { cls := .type "list", dict := odict, data := .seq items nl, slots := oslots } := Heap.get?_push_of_some _ hol
        have hsls := PySem.F.sub_list_set
        have hslf := PySem.F.sub_list_frozenset
        have hne : (Value.type "list" == Value.type "dict") = false := by decide
        have hl1 : (s.heap.push { cls := .type "set", dict := none, data := .set #[] 0 (.fresh 0 0 (!w.params.followText "set-order")) }).IsList l items := ⟨_, hol', rfl, nl, rfl⟩
        unfold Builtin.«set.__init__» noKeywords Builtin.Frozenset.updateFrom
        generalize hPI : pyIter = PI
        wp_walk
        subst hPI
        refine wpAny_pyIter_list hl1 ?_
        refine wpAny_bind (wpAny_runValue ?_)
        have hlS : l < s.heap.objs.size := Heap.lt_size hol
        have hh3 : A.in1.in1.in1.handled = none := by simp [hh]
        have hneI : l ≠ (s.heap.push { cls := .type "set", dict := none, data := .set #[] 0 (.fresh 0 0 (!w.params.followText "set-order")) }).objs.size := by
          rw [Heap.size_push]; exact Nat.ne_of_lt (Nat.lt_succ_of_lt hlS)
        have hSf : s.heap.objs.size ∉ [(s.heap.push { cls := .type "set", dict := none, data := .set #[] 0 (.fresh 0 0 (!w.params.followText "set-order")) }).objs.size, l] := by
          rw [Heap.size_push]
          simp only [List.mem_cons, List.not_mem_nil, or_false, not_or]
          exact ⟨Nat.ne_of_lt (Nat.lt_succ_self _), Nat.ne_of_gt hlS⟩
        have hsz : xs.length = items.size := by rw [← StrsAre.len_eq hi, Array.length_toList]
        have hval : ∀ (i : Nat) (v : Value), items[i]? = some v → ∃ t, v = .str (xs.getD i Str.empty) t := fun i v hv => txt_at hi i v (by rw [Array.getElem?_toList]; exact hv)
        refine loopX ((Walks.list hh3 _ l hneI items).toS) s.heap.objs.size hSf xs hsz (by omega) hval (items.size - 0) 0 _ (by omega) (Nat.zero_le _) ⟨⟨_, Heap.get?_push_size _ rfl, rfl, rfl⟩, (hl1.push _)⟩ ?_ ?_
        · exact hX.keep fun o ho => Heap.get?_push_of_some _ ho
        · intro s' hm hS'
          obtain ⟨h', g', d', tk', os'⟩ := s'
          have eg : g' = s.gens := hm.gens
          have ed : d' = s.drawn := hm.drawn
          have eo : os' = s.os := hm.os
          subst eg; subst ed; subst eo
          show wpAny _ _ _ _ _ _
          refine wpAny_pure ?_
          show wpAny _ _ (ret Value.none) _ _ _
          refine wpAny_pure ⟨rfl, h', tk', rfl, ?_, fun b o e => ?_⟩
          · have e1 : xs.take items.size = xs := by rw [← hsz, List.take_length]
            rw [e1] at hS'; exact hS'
          · have b1 : b ≠ s.heap.objs.size := Nat.ne_of_lt (Heap.lt_size e)
            have b2 : b ≠ (s.heap.push { cls := .type "set", dict := none, data := .set #[] 0 (.fresh 0 0 (!w.params.followText "set-order")) }).objs.size := by
              rw [Heap.size_push]; exact Nat.ne_of_lt (Nat.lt_succ_of_lt (Heap.lt_size e))
            refine hm.heap b o ?_ (Heap.get?_push_of_some _ (Heap.get?_push_of_some _ e))
            simp only [List.mem_cons, List.not_mem_nil, or_false, not_or]
            exact ⟨b1, b2⟩
      · cases r₂ with
        | error e => exact hr₂
        | ok fl₂ =>
          cases fl₂ with
          | ret r =>
            obtain ⟨rfl, h', tk, rfl, hS', hk'⟩ := hr₂
            repeat (any_goals (first | assumption | wp_step))
            exact fin _ _ hS' hk'
          | _ => exact hr₂.elim
    | _ => exact hr.elim

set_option maxHeartbeats 3200000 in
theorem callX_tuple {l : Addr} {items : Array Value} {xs : List Str} {Q : Value → Shared → Prop} (hh : A.handled = none) (hl : s.heap.IsTuple l items) (hi : StrsAre items.toList xs) (hb : xs.length + 1 < scanBound)
    (fin : ∀ (h' : Heap) (tk : Nat), SetX w h' s.heap.objs.size (fun j => decide (j ∈ distS xs)) (distS xs).length → (∀ b o, s.heap.get? b = some o → h'.get? b = some o) → Q (.ref s.heap.objs.size) { s with heap := h', toks := tk }) :
    wpAny (model P w) A (call (.type "set") [.ref l]) Q E s := by
  obtain ⟨c, tl, hmro⟩ := PySem.F.called_set.mro
  have hmade := PySem.F.called_set.made
  have hsub := PySem.F.called_set.sub
  refine wpAny_call (codeAny_of_tree ?_)
  show wpAny _ _ (callAny (.type "set") _) _ _ _
  refine wpAny_pure ⟨Code.quiet_builtin _ (by decide +kernel), codeAny_builtin PySem.F.entry_type_call ?_⟩
  rw [Around.under_plain (weight_type_call_type "set" [.ref l] []) rfl]
  have h1 := PySem.F.called_set.notType
  have h2 := PySem.F.called_set.canCreate
  have hct := PySem.F.typeCall_set_1 (.ref l)
  repeat (any_goals (first | assumption | wp_step))
  refine codeAny_mono (newX (.ref l) (E := E) (Q₁ := fun ob s₁ => ob = .ref s.heap.objs.size ∧
    s₁ = { s with heap := s.heap.push { cls := .type "set", dict := none, data := .set #[] 0 (.fresh 0 0 (!w.params.followText "set-order")) } }) ⟨rfl, rfl⟩) (fun r s1 hr => ?_)
  have hX : SetX w (s.heap.push { cls := .type "set", dict := none, data := .set #[] 0 (.fresh 0 0 (!w.params.followText "set-order")) }) s.heap.objs.size (fun j => decide (j ∈ distS [])) 0 := freshX w
  cases r with
  | error e => exact hr
  | ok fl =>
    cases fl with
    | ret obj =>
      obtain ⟨rfl, rfl⟩ := hr
      have hS : (s.heap.push { cls := .type "set", dict := none, data := .set #[] 0 (.fresh 0 0 (!w.params.followText "set-order")) }).get? s.heap.objs.size = some { cls := .type "set", dict := none, data := .set #[] 0 (.fresh 0 0 (!w.params.followText "set-order")) } := Heap.get?_push_size _ rfl
      have hT : Shared.TypeIs { s with heap := s.heap.push { cls := .type "set", dict := none, data := .set #[] 0 (.fresh 0 0 (!w.params.followText "set-order")) } } (.ref s.heap.objs.size) "set" := ⟨_, hS, rfl⟩
      have hli := PySem.F.called_set.init.lookup
      have hbi := PySem.F.called_set.init.bind (.ref s.heap.objs.size)
      repeat (any_goals (first | assumption | wp_step))
      refine codeAny_mono (codeAny_call_builtin (R := wants (fun r s₂ => r = .none ∧ ∃ h' tk, s₂ = { s with heap := h', toks := tk } ∧ SetX w h' s.heap.objs.size (fun j => decide (j ∈ distS xs)) (distS xs).length ∧
          (∀ b o, s.heap.get? b = some o → h'.get? b = some o)) E) PySem.F.called_set.init.plain PySem.F.entry_set_init (check_set_init_1 hT ?_)) (fun r₂ s₂ hr₂ => ?_)
      · obtain ⟨ol, hol, hcl, nl, hdl⟩ := hl
        obtain ⟨ocls, odict, odata, oslots⟩ := ol
        simp only at hcl hdl
        subst hcl; subst hdl
        have hol' : (s.heap.push { cls := .type "set", dict := none, data := .set #[] 0 (.fresh 0 0 (!w.params.followText "set-order")) }).get? l = some { cls := .type "tuple", dict := odict, data := .seq items nl, slots := oslots } := Heap.get?_push_of_some _ hol
        have hsls := PySem.F.sub_tuple_set
        have hslf := PySem.F.sub_tuple_frozenset
        have hne : (Value.type "tuple" == Value.type "dict") = false := by decide
        have hl1 : (s.heap.push { cls := .type "set", dict := none, data := .set #[] 0 (.fresh 0 0 (!w.params.followText "set-order")) }).IsTuple l items := ⟨_, hol', rfl, nl, rfl⟩
        unfold Builtin.«set.__init__» noKeywords Builtin.Frozenset.updateFrom
        generalize hPI : pyIter = PI
        wp_walk
        subst hPI
        refine wpAny_pyIter_tuple hl1 ?_
        refine wpAny_bind (wpAny_runValue ?_)
        have hlS : l < s.heap.objs.size := Heap.lt_size hol
        have hh3 : A.in1.in1.in1.handled = none := by simp [hh]
        have hneI : l ≠ (s.heap.push { cls := .type "set", dict := none, data := .set #[] 0 (.fresh 0 0 (!w.params.followText "set-order")) }).objs.size := by
          rw [Heap.size_push]; exact Nat.ne_of_lt (Nat.lt_succ_of_lt hlS)
        have hSf : s.heap.objs.size ∉ [(s.heap.push { cls := .type "set", dict := none, data := .set #[] 0 (.fresh 0 0 (!w.params.followText "set-order")) }).objs.size, l] := by
          rw [Heap.size_push]
          simp only [List.mem_cons, List.not_mem_nil, or_false, not_or]
          exact ⟨Nat.ne_of_lt (Nat.lt_succ_self _), Nat.ne_of_gt hlS⟩
        have hsz : xs.length = items.size := by rw [← StrsAre.len_eq hi, Array.length_toList]
        have hval : ∀ (i : Nat) (v : Value), items[i]? = some v → ∃ t, v = .str (xs.getD i Str.empty) t := fun i v hv => txt_at hi i v (by rw [Array.getElem?_toList]; exact hv)
        refine loopX ((Walks.tuple hh3 _ l hneI items).toS) s.heap.objs.size hSf xs hsz (by omega) hval (items.size - 0) 0 _ (by omega) (Nat.zero_le _) ⟨⟨_, Heap.get?_push_size _ rfl, rfl, rfl⟩, (hl1.push _)⟩ ?_ ?_
        · exact hX.keep fun o ho => Heap.get?_push_of_some _ ho
        · intro s' hm hS'
          obtain ⟨h', g', d', tk', os'⟩ := s'
          have eg : g' = s.gens := hm.gens
          have ed : d' = s.drawn := hm.drawn
          have eo : os' = s.os := hm.os
          subst eg; subst ed; subst eo
          show wpAny _ _ _ _ _ _
          refine wpAny_pure ?_
          show wpAny _ _ (ret Value.none) _ _ _
          refine wpAny_pure ⟨rfl, h', tk', rfl, ?_, fun b o e => ?_⟩
          · have e1 : xs.take items.size = xs := by rw [← hsz, List.take_length]
            rw [e1] at hS'; exact hS'
          · have b1 : b ≠ s.heap.objs.size := Nat.ne_of_lt (Heap.lt_size e)
            have b2 : b ≠ (s.heap.push { cls := .type "set", dict := none, data := .set #[] 0 (.fresh 0 0 (!w.params.followText "set-order")) }).objs.size := by
              rw [Heap.size_push]; exact Nat.ne_of_lt (Nat.lt_succ_of_lt (Heap.lt_size e))
            refine hm.heap b o ?_ (Heap.get?_push_of_some _ (Heap.get?_push_of_some _ e))
            simp only [List.mem_cons, List.not_mem_nil, or_false, not_or]
            exact ⟨b1, b2⟩
      · cases r₂ with
        | error e => exact hr₂
        | ok fl₂ =>
          cases fl₂ with
          | ret r =>
            obtain ⟨rfl, h', tk, rfl, hS', hk'⟩ := hr₂
            repeat (any_goals (first | assumption | wp_step))
            exact fin _ _ hS' hk'
          | _ => exact hr₂.elim
    | _ => exact hr.elim
end
end Vf

namespace Vf
open PySem PySem.Spec PyProof.Rows L2
section
variable {P : Program} {w : World} {A : Around} {E : Value → Shared → Prop} {s : Shared} {a : Addr} {S : Str → Bool} {n : Nat}
theorem strs_of_vals : ∀ (l : List Value), (∀ v ∈ l, ∃ k tk, v = Value.str k tk) → StrsAre l (l.map fun v => txtOf (0, v))
  | [], _ => .nil
  | v :: l, h => by
    obtain ⟨k, tk, e⟩ := h v List.mem_cons_self
    subst e
    exact .cons k tk (strs_of_vals l fun u hu => h u (List.mem_cons_of_mem _ hu))
theorem sortX {Q : Value → Shared → Prop} (R : SetX w s.heap a S n) (hh : A.handled = none)
    (hQ : ∀ s' p (out : Array Value) (c : Nat) (ys : List Str), (∀ b o, s.heap.get? b = some o → s'.heap.get? b = some o) → s'.gens = s.gens → s'.os = s.os → s.heap.objs.size ≤ p →
      s'.heap.get? p = some (seqObj "list" out c) → StrsAre out.toList ys → sortedS ys = true → ys.Nodup → (∀ k, k ∈ ys ↔ S k = true) → ys.length = n → Q (.ref p) s') :
    wpAny (model P w) A (call (.builtin "sorted") [.ref a]) Q E s := by
  obtain ⟨ob, es, ep, t, ho, hex, hd, g, nd, hm, hb, hf, hn, hr, hl⟩ := R
  refine Calls.call_function_entry kind_sorted plain_sorted entry_sorted (args_sorted1 _) ?_
  unfold Builtin.«sorted»
  refine wpAny_bind (m := checkCount "sorted" 1 1 _) (wpAny_pure ?_)
  refine wpAny_bind (collect_set (A := A.in1) hh ⟨ob, ho, hex.1, hd⟩ hf hb hr hl (fun s1 vs k1 hz g1 o1 pm => ?_))
  have lv : vs.length = n := by
    have := pm.length_eq
    simp only [List.length_map, Array.length_toList] at this
    omega
  have nb : n < 4096 := by rw [← hn]; exact hb
  have hS := strs_of_vals vs (fun v hv => by
    obtain ⟨e, he, q⟩ := List.mem_map.mp (pm.mem_iff.mp hv)
    obtain ⟨k, tk, h1, _⟩ := g e he
    exact ⟨k, tk, by rw [← q]; exact h1⟩)
  have pk : (vs.map fun v => txtOf (0, v)).Perm (es.toList.map txtOf) := by
    have q := pm.map fun v => txtOf (0, v)
    rw [List.map_map] at q
    exact q
  have lz : vs.length ≤ sizeLine := by rw [lv, sizeLine_eq]; omega
  refine wpAny_bind (wpAny_newList ?_ lz)
  have hoL : (s1.heap.push (seqObj "list" vs.toArray 0)).get? s1.heap.objs.size = some (seqObj "list" vs.toArray 0) := Heap.get?_push_size _ rfl
  refine wpAny_bind (wpAny_holding (wpAny_call_entry slot_list_sort ⟨_, hoL, rfl⟩ entry_list_sort (list_sort_treeKAny strKind_oneLt hoL hS.keysOf (fun v₁ v₂ rest e => keyKind_strs (by rw [← e]; exact hS)) lz (fun st' a1 a2 => ⟨_, rfl, ?_⟩)) (args_list_sort _)))
  obtain ⟨ys, b1, b2, b3⟩ := sorted_out_str hS a1 a2
  obtain ⟨c, hc⟩ := sortedHeap_at (vs := vs) (out := (arrOf st').map (·.2)) hoL
  have pn : ys.Perm (es.toList.map txtOf) := b2.trans pk
  refine wpAny_pure ⟨_, rfl, hQ _ s1.heap.objs.size _ c ys (fun b u e => ?_) g1 o1 hz hc b1 b3 (pn.nodup_iff.mpr nd) (fun k => by rw [pn.mem_iff, ← hm k]) ?_⟩
  · have q := k1 b u e
    have lt := Heap.lt_size q
    show (sortedHeap (s1.heap.push (seqObj "list" vs.toArray 0)) s1.heap.objs.size vs ((arrOf st').map (·.2))).get? b = some u
    rw [sortedHeap_old (Nat.ne_of_lt lt) (by rw [size_push']; exact Nat.lt_succ_of_lt lt)]
    exact Heap.get?_push_of_some _ q
  · have := pn.length_eq
    simp only [List.length_map, Array.length_toList] at this
    omega
end
section
variable {X : Cx}
theorem setXO_ok {P : Program} {w : World} {H : Hp} {h : Heap} {a : Addr} {ks : List Str} (R : SetX w h a (fun j => decide (j ∈ ks)) ks.length) : ObjOk P w H h a (SetXO w a ks) := by
  have ⟨o, _, _, _, ho, _⟩ := R
  exact ⟨R, ⟨o, ho⟩, fun h1 h2 r k => r.keep k⟩
theorem strs_vals : ∀ {ys : List Str} {us : List Value}, Vals (ys.map V.str) us → StrsAre us ys
  | [], _, r => by cases r; exact .nil
  | y :: ys, _, r => by
    cases r with
    | cons r1 r2 =>
      obtain ⟨t, rfl⟩ := r1
      exact .cons y t (strs_vals r2)
theorem vals_strs : ∀ {us : List Value} {ys : List Str}, StrsAre us ys → Vals (ys.map V.str) us
  | _, _, .nil => .nil
  | _, _, .cons y t r => .cons ⟨t, rfl⟩ (vals_strs r)
/-- set(texts) -/
def wSetOf (w : World) : WOL := fun ds h k => ∃ xs : List Str, (ds = [.tup (xs.map .str)] ∨ ds = [.lst (xs.map .str)]) ∧ xs.length + 1 < scanBound ∧ k (.sx w (distS xs)) h
theorem ol_set (hc : X.calm = true) : OpL X (.type "set") (wSetOf X.w) := by
  rintro pins s σ H vs us Q I r ⟨m, h, ds, k, rh, rd, ⟨xs, e, hb, q⟩, f⟩
  have hf : H s.heap.objs.size = none := I.hok.fresh (Nat.le_refl _)
  have fin : ∀ (h' : Heap) (tk : Nat), SetX X.w h' s.heap.objs.size (fun j => decide (j ∈ distS xs)) (distS xs).length → (∀ b o, s.heap.get? b = some o → h'.get? b = some o) → EP X pins σ Q (.ref s.heap.objs.size) { s with heap := h', toks := tk } := by
    intro h' tk R kp
    refine ⟨.ref s.heap.objs.size, L2.upd H s.heap.objs.size (SetXO X.w s.heap.objs.size (distS xs)), I.laid (t' := tk) kp (Nat.le_refl _) (setXO_ok R), rfl, f.new rh hf ?_ q⟩
    unfold RelD
    exact ⟨_, rfl, rh.notin hf, upd_same⟩
  rcases e with e | e
  · subst e
    obtain ⟨v, rfl, r1⟩ := rd.one
    unfold RelD at r1
    obtain ⟨a, ws, rfl, ta, ra⟩ := r1
    rw [rel_strs ra] at ta
    obtain ⟨its, rv, pl, _⟩ := I.tuple ta.sq
    rw [Vals.ref1 r]
    exact callX_tuple (I.ok.hd hc) pl (by simpa using strs_vals rv) hb fin
  · subst e
    obtain ⟨v, rfl, r1⟩ := rd.one
    unfold RelD at r1
    obtain ⟨a, ws, rfl, ta, ra⟩ := r1
    rw [rel_strs ra] at ta
    obtain ⟨its, rv, pl, _⟩ := I.list ta.sq
    rw [Vals.ref1 r]
    exact callX_list (I.ok.hd hc) pl.isList (by simpa using strs_vals rv) hb fin
/-- sorted(texts), sorted(set of texts) -/
def wSorted (w : World) : WOL := fun ds h k => wSortedS ds h k ∨ ∃ ks : List Str, ds = [.sx w ks] ∧ ∀ ys : List Str, sortedS ys = true → ys.Nodup → (∀ x, x ∈ ys ↔ x ∈ ks) → ys.length = ks.length → k (.lst (ys.map .str)) h
theorem ol_sorted (hc : X.calm = true) : OpL X (.builtin "sorted") (wSorted X.w) := by
  rintro pins s σ H vs us Q I r ⟨m, h, ds, k, rh, rd, q, f⟩
  rcases q with q | ⟨ks, e, q⟩
  · exact ol_sortedS pins s σ H vs us Q I r ⟨m, h, ds, k, rh, rd, q, f⟩
  · subst e
    obtain ⟨v, rfl, r1⟩ := rd.one
    unfold RelD at r1
    obtain ⟨a, rfl, np, ha⟩ := r1
    have R : SetX X.w s.heap a (fun j => decide (j ∈ ks)) ks.length := (I.hok a _ ha).1
    rw [Vals.ref1 r]
    refine sortX R (I.ok.hd hc) fun s' p out c ys kp g o hp hg hout hs nd hm hl => ?_
    have nb : ys.length ≤ sizeLine := by
      obtain ⟨_, es, _, _, _, _, _, _, _, _, hb, _, hn, _⟩ := R
      have : es.size < 4096 := hb
      rw [sizeLine_eq]; omega
    have hlen : (ys.map V.str).length ≤ sizeLine := by rw [List.length_map]; exact nb
    have hn : H p = none := I.hok.fresh hp
    have J : Inv X pins σ (L2.upd H p (.lst (ys.map V.str))) { s with heap := s'.heap, gens := s'.gens, drawn := s'.drawn, toks := s'.toks } :=
      I.call (ch := []) (Un.laid kp hp hn) (I.hok.laid kp hp ⟨hlen, out.toList, c, vals_strs hout, hg⟩) (by rw [g]; exact I.bare) (fun _ z => nomatch z)
    have e : s' = { s with heap := s'.heap, gens := s'.gens, drawn := s'.drawn, toks := s'.toks } := by
      cases s'; cases s; cases o; rfl
    rw [e]
    exact ⟨.ref p, _, J, rfl, f.new rh hn (.lstNew rh hn (strs_rel ys)) (q ys hs nd (fun x => by rw [hm x]; simp) hl)⟩
end
end Vf

namespace Vf
open PySem PySem.Spec PyProof.Rows L2
section
variable {X : Cx}
/-! texts times ints -/
def repS (a : Str) (n : Int) : Str := ⟨(List.replicate n.toNat a.cps).foldl (· ++ ·) #[]⟩
def wMulT : WO2 := fun x y h k => wMul x y h k ∨ ∃ a n, x = .str a ∧ y = .int n ∧ 2 ≤ n ∧ n ≤ 1000000 ∧ 1 ≤ a.length ∧ a.length * n.toNat ≤ sizeLine ∧ (repS a n).length ≤ sizeLine ∧ k (.str (repS a n)) h
theorem op2_mulT : Op2 X (binaryOp .Mult) wMulT := by
  rintro pins s σ H x y v u Q I rx ry ⟨m, h, dx, dy, k, rh, r1, r2, w, f⟩
  rcases w with w | ⟨a, n, rfl, rfl, h1, h2, h3, h4, h6, w⟩
  · exact op2_mul pins s σ H x y v u Q I rx ry ⟨m, h, dx, dy, k, rh, r1, r2, w, f⟩
  · unfold RelD at r1 r2; subst r1 r2
    obtain ⟨t, rfl⟩ := rx
    obtain ⟨t', rfl⟩ := ry
    have hs : (sizeLine : Nat) = 16777216 := sizeLine_eq
    have hmul : a.length * n.toNat = a.length * n.toNat := rfl
    have one : (n == 1 || a.length == 0) = false := by
      rw [Bool.or_eq_false_iff]
      exact ⟨by simp; omega, by simp; omega⟩
    have ha : a.length ≤ 16777216 := by
      have : a.length * 1 ≤ a.length * n.toNat := Nat.mul_le_mul_left _ (by omega)
      omega
    refine PySem.P.mul_str (by rw [Bool.or_eq_false_iff]; exact ⟨by simp; omega, by simp; omega⟩) (fun _ _ => ?_) (fun _ _ => ?_) ?_
    · have : (n : Int) ≤ 1000000 := h2
      have h5 : (9223372036854 : Int) ≤ (2 ^ 63 - 1) / n := by
        apply Int.le_ediv_of_mul_le (by omega)
        omega
      omega
    · exact decide_eq_false (by omega)
    · rw [if_neg (by omega), if_neg (by rw [one]; decide)]
      exact ⟨h6, ⟨.str (repS a n), H, I.tok _, ⟨_, rfl⟩, f.now rh (.strI _) w⟩⟩
theorem op2_notin {n : Nat} (hr : Room n X.A) : Op2 X (compareOp .NotIn) (wIn fun b => !b) := by
  rintro pins s σ H x y v u Q I rx ry ⟨m, h, dx, dy, k, rh, r1, r2, w, f⟩
  have hu : X.A.units + 65 < cLine := by have := hr.un; omega
  have seq : ∀ ys, isDat dx → (toPy dy = .tuple (toPys ys) ∨ toPy dy = .list (toPys ys)) → isDat dy → k (.bl (!inD dx ys)) h → wpAny (model X.prog X.w) X.A (compareOp .NotIn v u) (EP X pins σ Q) X.xe s := by
    rintro ys ⟨n1, s1⟩ e ⟨n2, s2⟩ w
    obtain ⟨as, q1⟩ := Dp.reads I _ _ _ (r1.dp n1) rx
    obtain ⟨bs, q2⟩ := Dp.reads I _ _ _ (r2.dp n2) ry
    rcases e with e | e
    · rw [e] at q2 s2
      exact SeqAt.notIn_tuple_reads q2 q1 (by simpa [PyData.canLay0] using SeqAt.canLay_of_shaped s2) (SeqAt.canLay_of_shaped s1) (room_in_shaped s1 hu) ⟨.bl _, H, I, rfl, by rw [any_toPys]; exact f.now rh (.blI _) w⟩
    · rw [e] at q2 s2
      exact SeqAt.notIn_list_reads q2 q1 (by simpa [PyData.canLay0] using SeqAt.canLay_of_shaped s2) (SeqAt.canLay_of_shaped s1) (room_in_shaped s1 hu) ⟨.bl _, H, I, rfl, by rw [any_toPys]; exact f.now rh (.blI _) w⟩
  cases dy with
  | tup ys =>
    have w' : (isDat dx ∧ isDat (.tup ys)) ∧ k (.bl (!inD dx ys)) h := by cases dx <;> exact w
    exact seq ys w'.1.1 (.inl (by simp [toPy])) w'.1.2 w'.2
  | lst ys =>
    have w' : (isDat dx ∧ isDat (.lst ys)) ∧ k (.bl (!inD dx ys)) h := by cases dx <;> exact w
    exact seq ys w'.1.1 (.inr (by simp [toPy])) w'.1.2 w'.2
  | str b =>
    cases dx with
    | str a =>
      have w' : k (.bl (!inStr a b)) h := w
      unfold RelD at r1 r2; subst r1 r2
      rcases ha : a.cps.toList with _ | ⟨c, _ | ⟨c2, r⟩⟩
      · refine op_notin_str pins s σ H _ _ v u Q I rx ry ⟨_, _, rfl, rfl, f.now rh (.blI _) ?_⟩
        unfold inStr at w'; rw [ha] at w'; exact w'
      · obtain ⟨rfl, e⟩ := inStr_one (b := b) ha
        rw [e] at w'
        exact op_notIn_sign pins s σ H _ _ v u Q I rx ry ⟨c, b, rfl, rfl, f.now rh (.blI _) w'⟩
      · refine op_notin_str pins s σ H _ _ v u Q I rx ry ⟨_, _, rfl, rfl, f.now rh (.blI _) ?_⟩
        unfold inStr at w'; rw [ha] at w'; exact w'
    | _ => exact False.elim w
  | _ => cases dx <;> exact False.elim w
def w1Neg : WO1
  | .int i, h, k => k (.int (-i)) h
  | _, _, _ => False
theorem op1_neg : Op1 X (unaryOp .USub) w1Neg := by
  rintro pins s σ H x v Q I rx ⟨m, h, dx, k, rh, r1, w, f⟩
  cases dx <;> first | exact False.elim w | skip
  unfold RelD at r1; subst r1
  exact un_neg pins s σ H _ v Q I rx ⟨_, rfl, f.now rh (.intI _) w⟩
/-- a module's constant that is no object -/
def constV : D → Value → Prop
  | .int i, u => ∃ t, u = .int i t
  | .str x, u => ∃ t, u = .str x t
  | .bl b, u => u = .bool b
  | .non, u => u = .none
  | _, _ => False
theorem de_const {x : Str} {d : D} {pos : Pos} (hg : Gl X x) (hm : ∃ u, X.mg x = some u ∧ constV d u) (hd : (x == ("__debug__" : Str)) = false := by decide) : DE X (.Name x pos) (wC d) := by
  obtain ⟨u, hm, hc⟩ := hm
  cases d <;> first | exact False.elim hc | skip
  · exact PE.imp (pe_glob (v := .non) hg hm hc hd) fun σ H Q ⟨m, ρ, h, k, rs, rh, q, c⟩ => c .non h .non m H (Step.refl m H) rh (by unfold RelD; rfl) q
  · exact PE.imp (pe_glob (v := .bl _) hg hm hc hd) fun σ H Q ⟨m, ρ, h, k, rs, rh, q, c⟩ => c (.bl _) h (.bl _) m H (Step.refl m H) rh (.blI _) q
  · exact PE.imp (pe_glob (v := .int _) hg hm hc hd) fun σ H Q ⟨m, ρ, h, k, rs, rh, q, c⟩ => c (.int _) h (.int _) m H (Step.refl m H) rh (.intI _) q
  · exact PE.imp (pe_glob (v := .str _) hg hm hc hd) fun σ H Q ⟨m, ρ, h, k, rs, rh, q, c⟩ => c (.str _) h (.str _) m H (Step.refl m H) rh (.strI _) q
/-- x = [..] -/
theorem ds_setLc {tg iter elt : Expr} {ifs : List Expr} {scope : Scope} {own : List (Str × Nat)} {pos spos py : Pos} {wi : WI} {T : Tg} {t : WB} {e : W1} {y : Str} (i : Nat) (hc : X.calm = true) (hN : X.N.Nodup) (hi : DI X tg iter wi) (ok : BlkOk X.N X.env.scope scope own) (hv : ∀ i ∈ tgS T, i ∈ own.map (·.2))
    (hg : ∀ (s : Shared) (H : Hp) (C : Addr) (cl : List (Str × Addr)) (fp : List Addr), PG (X.blk s H scope (compEnvC scope cl C X.env) fp) tg (tgG X.K T))
    (ht : ∀ (s : Shared) (H : Hp) (C : Addr) (cl : List (Str × Addr)) (fp : List Addr), DTs (X.blk s H scope (compEnvC scope cl C X.env) fp) ifs t)
    (he : ∀ (s : Shared) (H : Hp) (C : Addr) (cl : List (Str × Addr)) (fp : List Addr), DE (X.blk s H scope (compEnvC scope cl C X.env) fp) elt e)
    (hy : X.N[i]? = some y := by rfl) (hyl : X.env.scope.names.lookup y = some .local := by rfl) (hsw : swapsWith (.ListComp elt [⟨tg, iter, ifs, 0⟩] scope pos) (some (.Name y py)) spos.line X.env = pure true := by exact sw_true rfl rfl rfl (by decide +kernel))
    (hs : ∀ x, foldedSetIterable iter X.env x = pure x := by intro _; rfl) : DS X (.Assign [.Name y py] (.ListComp elt [⟨tg, iter, ifs, 0⟩] scope pos) spos) (wSet i (wLc wi T t e (own.map (·.2)))) :=
  PS.imp (ps_setLc (tt := tDB X.K t) (te := tD X.K e) hc hN hy hyl hsw hi ok hg ht he hs) fun D σ H ⟨m, ρ, h, en, rs, rh, q, f⟩ =>
    lc_all hv (fin := fun k acc h2 => k (.lst acc) h2) (fun k m H h acc p us m1 H1 f rh st np hp np0 ep ra q => f (.lst acc) h (.ref p) m1 H1 st rh (by unfold RelD; exact ⟨p, us, rfl, ⟨np, ep⟩, ra⟩) q)
      ⟨m, ρ, h, fun d h1 => en.nx (ρ.set i (some d)) h1, rs, rh, q, fun d h1 v m1 H1 s1 rh1 rd q1 => f.nx (ρ.set i (some d)) h1 _ m1 H1 s1 ((rs.step s1).set i rd) rh1 q1⟩
/-! slices -/
abbrev WP := Rho → DH → (Option Int → DH → Prop) → Prop
def tDO (K : PySem.W.Frag) (w : WP) : TO := fun σ H Q => ∃ (m : Lay) (ρ : Rho) (h : DH) (k : Option Int → DH → Prop), RelS K m H σ ρ ∧ RelH K m H h ∧ w ρ h k ∧ ∀ o h' m' H', Step m H m' H' → RelH K m' H' h' → k o h' → Q o H'
def DO' (X : Cx) (e : Option Expr) (w : WP) : Prop := PO X e (tDO X.K w)
theorem do_none : DO' X none (fun _ h k => k none h) := ⟨fun pins s σ H Q I ⟨m, ρ, h, k, rs, rh, q, c⟩ => po_none.run pins s σ H Q I (c none h m H (Step.refl m H) rh q)⟩
theorem do_some {e : Expr} {w : W1} (h : DE X e w) : DO' X (some e) (fun ρ h k => w ρ h fun d h1 => ∃ i, d = .int i ∧ k (some i) h1) :=
  ⟨fun pins s σ H Q I ⟨m, ρ, h', k, rs, rh, q, c⟩ => (po_some h).run pins s σ H Q I ⟨m, ρ, h', _, rs, rh, q, fun d h1 v m1 H1 s1 rh1 rd ⟨i, e1, q1⟩ => by
    subst e1; unfold RelD at rd; subst rd
    exact ⟨i, rfl, c (some i) h1 m1 H1 s1 rh1 q1⟩⟩⟩
def cutD (xs : List D) (lo hi : Option Int) : List D := (xs.drop (HT.sIx xs.length 0 lo)).take (HT.sIx xs.length xs.length hi - HT.sIx xs.length 0 lo)
theorem RelDs.drop {K : PySem.W.Frag} {m : Lay} {H : Hp} : ∀ {ds : List D} {vs : List V} (n : Nat), RelDs K m H ds vs → RelDs K m H (ds.drop n) (vs.drop n)
  | ds, vs, 0, r => by simpa using r
  | [], vs, n + 1, r => by unfold RelDs at r; subst r; simp [RelDs]
  | d :: ds, vs, n + 1, r => by
    unfold RelDs at r
    obtain ⟨v, t, rfl, _, h2⟩ := r
    simpa using RelDs.drop n h2
theorem RelDs.take {K : PySem.W.Frag} {m : Lay} {H : Hp} : ∀ {ds : List D} {vs : List V} (n : Nat), RelDs K m H ds vs → RelDs K m H (ds.take n) (vs.take n)
  | ds, vs, 0, r => by simp [RelDs]
  | [], vs, n + 1, r => by unfold RelDs at r; subst r; simp [RelDs]
  | d :: ds, vs, n + 1, r => by
    unfold RelDs at r
    obtain ⟨v, t, rfl, h1, h2⟩ := r
    simp only [List.take_succ_cons]
    unfold RelDs
    exact ⟨v, _, rfl, h1, RelDs.take n h2⟩
theorem RelDs.cut {K : PySem.W.Frag} {m : Lay} {H : Hp} {ds : List D} {vs : List V} {lo hi : Option Int} (r : RelDs K m H ds vs) : RelDs K m H (cutD ds lo hi) (cutV vs lo hi) := by
  unfold cutD cutV
  rw [r.length]
  exact (r.drop _).take _
def wSl : D → Option Int → Option Int → DH → K1 → Prop
  | .tup ds, lo, hi, h, k => k (.tup (cutD ds lo hi)) h
  | .lst ds, lo, hi, h, k => k (.lst (cutD ds lo hi)) h
  | .str z, lo, hi, h, k => z.length ≤ sizeLine ∧ k (.str (cutS z lo hi)) h
  | _, _, _, _, _ => False
theorem de_slice {e : Expr} {lo hi : Option Expr} {w : W1} {wl wh : WP} {pos p2 : Pos} (he : DE X e w) (hl : DO' X lo wl) (hh : DO' X hi wh) : DE X (.Subscript e (.Slice lo hi none p2) pos) (fun ρ h k => w ρ h fun d h1 => wl ρ h1 fun l h2 => wh ρ h2 fun u h3 => wSl d l u h3 k) := by
  refine PE.imp (pe_slice (sl_tupA.or (sl_list.or sl_str)) he hl hh) fun σ H Q ⟨m, ρ, h, k, rs, rh, q, c⟩ => ⟨m, ρ, h, _, rs, rh, q, fun d h1 v m1 H1 s1 rh1 rd q1 => ⟨m1, ρ, h1, _, rs.step s1, rh1, q1, fun l h2 m2 H2 s2 rh2 q2 => ⟨m2, ρ, h2, _, (rs.step s1).step s2, rh2, q2, fun u h3 m3 H3 s3 rh3 q3 => ?_⟩⟩⟩
  have st := (s1.trans s2).trans s3
  have rd3 := (rd.step s2).step s3
  have f : Fol X.K m3 H3 k Q := fun d' h4 v' m4 H4 s4 => c d' h4 v' m4 H4 (st.trans s4)
  cases d with
  | tup ds =>
    have rd4 := rd3
    unfold RelD at rd3
    obtain ⟨a, vs, rfl, ta, ra⟩ := rd3
    have hlen := ra.length
    refine .inl ⟨a, vs, rfl, ta.sq, fun hw => f.now rh3 rd4 ?_, fun _ p hp => f.new rh3 hp (.tupNew rh3 hp ra.cut) q3⟩
    have e1 : cutD ds l u = ds := by
      unfold cutD
      rw [hlen, hw.1, hw.2, List.drop_zero, Nat.sub_zero, ← hlen, List.take_length]
    have q4 : k (.tup (cutD ds l u)) h3 := q3
    rw [e1] at q4; exact q4
  | lst ds =>
    unfold RelD at rd3
    obtain ⟨a, vs, rfl, ta, ra⟩ := rd3
    exact .inr (.inl ⟨a, vs, rfl, ta.sq, fun p hp => f.new rh3 hp (.lstNew rh3 hp ra.cut) q3⟩)
  | str z =>
    unfold RelD at rd3; subst rd3
    exact .inr (.inr ⟨z, rfl, q3.1, f.now rh3 (.strI _) q3.2⟩)
  | _ => exact False.elim q3
end
end Vf

namespace Vf
open PySem PySem.Spec PyProof.Rows L2 RZ
section
variable {X : Cx}
/-! isinstance of a value and a built-in class -/
def tyName : D → DH → Option String
  | .non, _ => some "NoneType"
  | .bl _, _ => some "bool"
  | .int _, _ => some "int"
  | .str _, _ => some "str"
  | .tup _, _ => some "tuple"
  | .lst _, _ => some "list"
  | .ref n, h => match h[n]? with
    | some (.lst _) => some "list"
    | some (.dk _ _) => some "dict"
    | _ => none
  | _, _ => none
theorem tyName.ok {K : PySem.W.Frag} {m : Lay} {H : Hp} {h : DH} (rh : RelH K m H h) : ∀ {d : D} {v : V} {t : String}, RelD K m H d v → tyName d h = some t → TyX K H v (.type t)
  | .non, v, t, r, e => by unfold RelD at r; subst r; cases e; exact .base .non
  | .bl _, v, t, r, e => by unfold RelD at r; subst r; cases e; exact .base (.bl _)
  | .int _, v, t, r, e => by unfold RelD at r; subst r; cases e; exact .base (.int _)
  | .str _, v, t, r, e => by unfold RelD at r; subst r; cases e; exact .base (.str _)
  | .tup ds, v, t, r, e => by
    unfold RelD at r
    obtain ⟨a, vs, rfl, ta, _⟩ := r
    cases e
    rcases ta.sq with (q | ⟨o, q⟩) | ⟨o, its, n, hk, hc, _⟩
    · exact .base (.tup q)
    · exact .fTuple q
    · exact .kTuple hk hc
  | .lst ds, v, t, r, e => by
    unfold RelD at r
    obtain ⟨a, vs, rfl, ta, _⟩ := r
    cases e
    exact .base (.lst ta.2)
  | .rol ds, v, t, r, e => by cases e
  | .sx _ _, v, t, r, e => by cases e
  | .dic _ _, v, t, r, e => by cases e
  | .kd _ _ _, v, t, r, e => by cases e
  | .ref n, v, t, r, e => by
    unfold RelD at r
    obtain ⟨a, rfl, ha⟩ := r
    unfold tyName at e
    dsimp only at e
    cases hn : h[n]? with
    | none => rw [hn] at e; cases e
    | some o =>
      rw [hn] at e
      cases o with
      | lst ds =>
        cases e
        obtain ⟨b, eb, vs, ev, _⟩ := rh.ob n _ hn
        rw [ha] at eb; cases eb
        exact .base (.lst ev)
      | obj c ns ds => cases e
      | dk ks ds =>
        cases e
        obtain ⟨b, eb, vs, ev, _⟩ := rh.ob n _ hn
        rw [ha] at eb; cases eb
        exact .base (.dK ev)
      | dt ks ds => cases e
      | dtl o vs ks ds => cases e
      | dkl o vs ks ds => cases e
def wIsi (T : String) (w : W1) : W1 := fun ρ h k => w ρ h fun d h1 => ∃ t b, tyName d h1 = some t ∧ kitB t T = some b ∧ k (.bl b) h1
theorem de_isi {e : Expr} {w : W1} {T : String} {x : Str} {p p2 pos : Pos} (he : DE X e w) (hg : Gl X "isinstance") (hm : X.mg "isinstance" = none) (hg2 : Gl X x) (hm2 : X.mg x = none) (hv2 : bootBuiltins x = some (.type T)) (hn2 : x ≠ "__name__" := by decide) (hd2 : (x == ("__debug__" : Str)) = false := by decide)
    (he1 : starEach [e, .Name x p2] X.env = (false, eval e X.env) :: starEach [.Name x p2] X.env := by rfl) (he2 : starEach [.Name x p2] X.env = (false, eval (.Name x p2) X.env) :: starEach [] X.env := by rfl) (hpl : (backTo pos (starEach [.Name x p2] X.env)).any (·.1) = false := by rfl) :
    DE X (.Call (.Name "isinstance" p) [e, .Name x p2] [] pos) (wIsi T w) := by
  refine PE.imp (pe_callB call_isi hg hm (by decide +kernel) (pa_cons he (pa_cons (pe_bltn (v := .ty T) hg2 hm2 hv2 rfl hn2 hd2) pa_nil he2) he1) (by decide) (by decide) he1 hpl) fun σ H Q ⟨m, ρ, h, k, rs, rh, q, c⟩ => ⟨m, ρ, h, _, rs, rh, q, fun d h1 v m1 H1 s1 rh1 rd ⟨t, b, e1, e2, q1⟩ => ?_⟩
  exact ⟨v, .ty T, .type t, .type T, b, rfl, .ty T, tyName.ok rh1 rd e1, kit_ty e2, c (.bl b) h1 (.bl b) m1 H1 s1 rh1 (.blI b) q1⟩
/-! list(x) -/
def wListOf : WOL := fun ds h k => (∃ xs, ds = [.tup xs] ∧ k (.lst xs) h) ∨ ∃ xs, ds = [.lst xs] ∧ k (.lst xs) h
theorem ol_list : OpL X (.type "list") wListOf := by
  rintro pins s σ H xs us Q I r ⟨m, h, ds, k, rh, rd, q, f⟩
  rcases q with ⟨ys, e, q⟩ | ⟨ys, e, q⟩
  · subst e
    obtain ⟨v, rfl, r1⟩ := rd.one
    unfold RelD at r1
    obtain ⟨a, vs, rfl, ta, ra⟩ := r1
    exact call_list_of pins s σ H _ us Q I r ⟨a, vs, rfl, .inr ta.sq, fun p hp => f.new rh hp (.lstNew rh hp ra) q⟩
  · subst e
    obtain ⟨v, rfl, r1⟩ := rd.one
    unfold RelD at r1
    obtain ⟨a, vs, rfl, ta, ra⟩ := r1
    exact call_list_of pins s σ H _ us Q I r ⟨a, vs, rfl, .inl ta.sq, fun p hp => f.new rh hp (.lstNew rh hp ra) q⟩
/-! zip of two lists, of two tuples -/
theorem pair_step {K : PySem.W.Frag} {m : Lay} {H H' : Hp} {h : DH} {xs ys : List V} {ds es : List D} {i : Nat} {x : V} (rh : RelH K m H h) (r1 : RelDs K m H ds xs) (r2 : RelDs K m H es ys)
    (y : YPair (fun i => xs[i]?) (fun i => ys[i]?) i H x H') : ∃ d, ((ds.zip es).map fun p => D.tup [p.1, p.2])[i]? = some d ∧ Step m H m H' ∧ RelH K m H' h ∧ RelD K m H' d x := by
  obtain ⟨T, u, v, rfl, hT, rfl, e1, e2⟩ := y
  obtain ⟨d1, f1, g1⟩ := r1.at e1
  obtain ⟨d2, f2, g2⟩ := r2.at e2
  have st : Step m H m (L2.upd H T (.tup [u, v])) := Step.new rh _ hT
  refine ⟨.tup [d1, d2], ?_, st, rh.new _ hT, .tupNew rh hT ?_⟩
  · rw [List.getElem?_map, List.getElem?_zip_eq_some (z := (d1, d2)) |>.mpr ⟨f1, f2⟩]; rfl
  · unfold RelDs RelDs RelDs
    exact ⟨u, _, rfl, g1, v, _, rfl, g2, rfl⟩
theorem walk_zipT {K : PySem.W.Frag} {a b : Addr} {xs ys : List V} {n : Nat} (hn : n = min xs.length ys.length) : Walk (ItzT K a b) n (fun H => SqT K H a xs ∧ SqT K H b ys) (YPair (fun i => xs[i]?) (fun i => ys[i]?)) := by
  subst hn
  refine ⟨fun i H hi g => ?_, fun H g => ?_, fun i H x H' hi g y => ?_⟩
  · exact ⟨xs, ys, xs[i]'(by omega), ys[i]'(by omega), g.1, g.2, by simp, by simp⟩
  · exact ⟨xs, ys, g.1, g.2, by omega⟩
  · obtain ⟨T, u, v, e1, e2, e3, e4, e5⟩ := y
    exact ⟨T, u, v, e1, e2, e3, e4 xs g.1, e5 ys g.2⟩
def zipD (ds es : List D) : List D := (ds.zip es).map fun p => D.tup [p.1, p.2]
def wZip (w : WL) : WI := fun ρ h k => w ρ h fun as h1 => ∃ ds es, (as = [.lst ds, .lst es] ∨ as = [.tup ds, .tup es]) ∧ k ⟨zipD ds es, fun _ => True⟩ h1
theorem di_zip {e e2 : Expr} {w : WL} {p pos tpos : Pos} {elts : List Expr} {kk : Nat} (hg : Gl X "zip") (hm : X.mg "zip" = none) (ha : DA X [e, e2] w)
    (hs : starEach [e, e2] X.env = (false, eval e X.env) :: starEach [e2] X.env := by rfl) (hpl : (backTo pos (starEach [e2] X.env)).any (·.1) = false := by rfl) : DI X (.Tuple elts kk tpos) (.Call (.Name "zip" p) [e, e2] [] pos) (wZip w) := by
  refine PI.imp (pi_zipA hg hm ha hs hpl) fun σ H R ⟨m, ρ, h, k, rs, rh, q, f⟩ => ⟨m, ρ, h, _, rs, rh, q, fun as h1 vs m1 H1 s1 rh1 rd ⟨ds, es, e, q1⟩ => ?_⟩
  rcases e with rfl | rfl
  · obtain ⟨u, v, rfl, r1, r2⟩ := rd.two
    unfold RelD at r1 r2
    obtain ⟨a, xs, rfl, ta, ra⟩ := r1
    obtain ⟨b, ys, rfl, tb, rb⟩ := r2
    refine ⟨a, b, xs, ys, rfl, .inl ⟨ta.sq, tb.sq, f _ h1 m1 H1 _ s1 rh1 ⟨_, _, walk_zip (n := (zipD ds es).length) ?_, fun m2 H2 h2 s2 _ _ => ⟨(ta.mv s2).sq, (tb.mv s2).sq⟩, fun i m2 H2 x H3 h2 s2 rh2 _ y => pair_step rh2 (ra.mv s2) (rb.mv s2) y⟩ q1⟩⟩
    simp [zipD, ra.length, rb.length]
  · obtain ⟨u, v, rfl, r1, r2⟩ := rd.two
    unfold RelD at r1 r2
    obtain ⟨a, xs, rfl, ta, ra⟩ := r1
    obtain ⟨b, ys, rfl, tb, rb⟩ := r2
    refine ⟨a, b, xs, ys, rfl, .inr ⟨ta.sq, tb.sq, f _ h1 m1 H1 _ s1 rh1 ⟨_, _, walk_zipT (n := (zipD ds es).length) ?_, fun m2 H2 h2 s2 _ _ => ⟨(ta.mv s2).sq, (tb.mv s2).sq⟩, fun i m2 H2 x H3 h2 s2 rh2 _ y => pair_step rh2 (ra.mv s2) (rb.mv s2) y⟩ q1⟩⟩
    simp [zipD, ra.length, rb.length]
end
end Vf

namespace Vf
open PySem PySem.Spec PyProof.Rows L2
/-! ### lemmas over data -/
theorem szl {n : Nat} (h : n ≤ 16777216) : n ≤ sizeLine := by rw [sizeLine_eq]; exact h
theorem lc_pure {i : Nat} {e : W1} {g : D → D} {ok : DH → Prop} {ρ : Rho} {fin : List D → DH → Prop} {h : DH} (hok : ok h) : ∀ {its acc : List D}, (∀ x ∈ its, ∀ k : K1, k (g x) h → e (ρ.set i (some x)) h k) →
    acc.length + its.length ≤ sizeLine → fin (acc ++ its.map g) h → lcGo (.n i) wYes e ok ρ fin its acc h
  | [], acc, _, _, hf => ⟨hok, by simpa using hf⟩
  | x :: its, acc, he, hz, hf => by
    refine ⟨hok, _, rfl, ?_⟩
    show e (ρ.set i (some x)) h (fun y h2 => acc.length < sizeLine ∧ lcGo (.n i) wYes e ok ρ fin its (acc ++ [y]) h2)
    refine he x List.mem_cons_self _ ⟨by simp at hz; omega, lc_pure hok (fun y hy => he y (List.mem_cons_of_mem _ hy)) (by simp at hz ⊢; omega) (by simpa using hf)⟩
/-- the heap may change: an invariant J of it -/
theorem lc_inv {i : Nat} {t : WB} {e : W1} {ok : DH → Prop} {ρ : Rho} {fin : List D → DH → Prop} (J : DH → Prop) (R : D → D → Prop) (hok : ∀ h, J h → ok h)
    (ht : ∀ x h, J h → ∀ k : KB, (∀ b h', J h' → k b h') → t (ρ.set i (some x)) h k)
    (he : ∀ x h, J h → ∀ k : K1, (∀ y h', J h' → R x y → k y h') → e (ρ.set i (some x)) h k) : ∀ {its acc : List D} {h : DH}, J h → acc.length + its.length ≤ sizeLine →
    (∀ out h', J h' → (∀ y ∈ out, ∃ x ∈ its, R x y) → out.length ≤ its.length → fin (acc ++ out) h') → lcGo (.n i) t e ok ρ fin its acc h
  | [], acc, h, j, _, hf => ⟨hok h j, by simpa using hf [] h j (by simp) (by simp)⟩
  | x :: its, acc, h, j, hz, hf => by
    refine ⟨hok h j, _, rfl, ht x h j _ fun b h1 j1 => ?_⟩
    cases b with
    | false =>
      rw [if_neg (by decide)]
      exact lc_inv J R hok ht he j1 (by simp at hz; omega) fun out h' j' hR hl => hf out h' j' (fun y hy => let ⟨z, hz, r⟩ := hR y hy; ⟨z, List.mem_cons_of_mem _ hz, r⟩) (by simp; omega)
    | true =>
      rw [if_pos rfl]
      refine he x h1 j1 _ fun y h2 j2 r => ⟨by simp at hz; omega, lc_inv J R hok ht he j2 (by simp at hz ⊢; omega) fun out h' j' hR hl => ?_⟩
      have := hf (y :: out) h' j' (fun z hz => by
        rcases List.mem_cons.mp hz with e | hz
        · exact ⟨x, List.mem_cons_self, e ▸ r⟩
        · obtain ⟨u, hu, ru⟩ := hR z hz
          exact ⟨u, List.mem_cons_of_mem _ hu, ru⟩) (by simp; omega)
      simpa using this
/-- .. a filter: a sublist -/
theorem lc_sub {i : Nat} {t : WB} {e : W1} {ok : DH → Prop} {ρ : Rho} {fin : List D → DH → Prop} (J : DH → Prop) (hok : ∀ h, J h → ok h)
    (ht : ∀ x h, J h → ∀ k : KB, (∀ b h', J h' → k b h') → t (ρ.set i (some x)) h k)
    (he : ∀ x h, J h → ∀ k : K1, k x h → e (ρ.set i (some x)) h k) : ∀ {its acc : List D} {h : DH}, J h → acc.length + its.length ≤ sizeLine →
    (∀ out h', J h' → out.Sublist its → fin (acc ++ out) h') → lcGo (.n i) t e ok ρ fin its acc h
  | [], acc, h, j, _, hf => ⟨hok h j, by simpa using hf [] h j (by simp)⟩
  | x :: its, acc, h, j, hz, hf => by
    refine ⟨hok h j, _, rfl, ht x h j _ fun b h1 j1 => ?_⟩
    cases b with
    | false =>
      rw [if_neg (by decide)]
      exact lc_sub J hok ht he j1 (by simp at hz; omega) fun out h' j' hs => hf out h' j' (hs.cons x)
    | true =>
      rw [if_pos rfl]
      refine he x h1 j1 _ ⟨by simp at hz; omega, lc_sub J hok ht he j1 (by simp at hz ⊢; omega) fun out h' j' hs => ?_⟩
      simpa using hf (x :: out) h' j' (hs.cons₂ x)
def okS (xs : List Str) : Prop := ∀ x ∈ xs, PyData.strOk x = true
theorem toPys_map (xs : List Str) : toPys (xs.map .str) = xs.map .str := by
  induction xs with
  | nil => rfl
  | cons x xs ih => simp only [List.map_cons]; unfold toPys; rw [ih]; rfl
theorem dat_str {x : Str} (h : PyData.strOk x = true) : isDat (.str x) := ⟨rfl, by unfold toPy SeqAt.shaped; simp [PyData.canLay0, PyData.depth, h]⟩
theorem noRefs_map (xs : List Str) : noRefs (xs.map .str) = true := by
  induction xs with
  | nil => rfl
  | cons x xs ih => simp only [List.map_cons]; unfold noRefs; rw [ih]; rfl
theorem lay_map {xs : List Str} (h : okS xs) : PyData.canLayAll0 (xs.map .str) = true := by
  induction xs with
  | nil => rfl
  | cons x xs ih =>
    simp only [List.map_cons, PyData.canLayAll0, PyData.canLay0, Bool.and_eq_true]
    exact ⟨h x List.mem_cons_self, ih fun y hy => h y (List.mem_cons_of_mem _ hy)⟩
theorem depth_map : ∀ xs : List Str, PyData.depthAll (xs.map .str) ≤ 1
  | [] => by simp [PyData.depthAll]
  | x :: xs => by
    have := depth_map xs
    simp only [List.map_cons, PyData.depthAll, PyData.depth]
    exact Nat.max_le.mpr ⟨Nat.zero_le _, this⟩
theorem dat_strs {xs : List Str} (h : okS xs) : isDat (.tup (xs.map .str)) := by
  refine ⟨by unfold noRef; exact noRefs_map xs, ?_⟩
  unfold toPy
  rw [toPys_map]
  have := depth_map xs
  have h2 : (PyData.tuple (xs.map .str)).depth ≤ 64 := by
    unfold PyData.depth; omega
  have h3 : (PyData.tuple (xs.map .str)).canLay0 = true := by
    unfold PyData.canLay0; exact lay_map h
  unfold SeqAt.shaped
  rw [h3, decide_eq_true h2]; rfl
theorem inD_strs (x : Str) (ys : List Str) : inD (.str x) (ys.map .str) = decide (x ∈ ys) := by
  unfold inD
  rw [List.any_map, Bool.eq_iff_iff]
  simp only [List.any_eq_true, Function.comp, dEq_str, decide_eq_true_eq]
  exact ⟨fun ⟨y, hy, e⟩ => e ▸ hy, fun h => ⟨x, h, rfl⟩⟩
theorem all_map_bl (xs : List Str) (g : Str → Bool) : (xs.map fun x => D.bl (g x)) = (xs.map g).map .bl := by simp
end Vf

namespace Vf
open PySem PySem.Spec PyProof.Rows L2
theorem ifT {c : Bool} {A B : Prop} (h : c = true) (a : A) : if c = true then A else B := by rw [if_pos h]; exact a
theorem ifF {c : Bool} {A B : Prop} (h : c = false) (b : B) : if c = true then A else B := by rw [if_neg (by rw [h]; decide)]; exact b
/-! ### repr: what can be shown -/
def shows (d : D) : Prop := noRef d = true ∧ (toPy d).layable0 = true ∧ (toPy d).intsShort 13 = true ∧ (toPy d).showable = true
theorem wRepr_of {d : D} {h : DH} {k : K1} (s : shows d) (q : k (.str (toPy d).shown) h) : wRepr [d] h k := by
  obtain ⟨h1, h2, h3, h4⟩ := s
  refine ⟨d, rfl, ⟨h1, h4, PyData.hasDict_of_layable h2, ?_, PyData.shown_fits_of_layable0 (by decide) (by decide) h2 h3⟩, q⟩
  unfold PyData.layable0 at h2
  simp only [Bool.and_eq_true, decide_eq_true_eq] at h2
  exact h2.1.2
theorem shows.c {d : D} (s : shows d) : noRef d = true ∧ (toPy d).showable = true ∧ (toPy d).hasDict = false ∧ (toPy d).depth ≤ 64 ∧ (toPy d).shown.length ≤ sizeLine := by
  obtain ⟨h1, h2, h3, h4⟩ := s
  refine ⟨h1, h4, PyData.hasDict_of_layable h2, ?_, PyData.shown_fits_of_layable0 (by decide) (by decide) h2 h3⟩
  unfold PyData.layable0 at h2
  simp only [Bool.and_eq_true, decide_eq_true_eq] at h2
  exact h2.1.2
/-- texts: short and well formed -/
def okN (xs : List Str) : Prop := xs.length ≤ 100 ∧ ∀ x ∈ xs, PyData.strOk x = true ∧ x.cps.size ≤ 100
theorem okN.s {xs : List Str} (h : okN xs) : okS xs := fun x hx => (h.2 x hx).1
theorem okN.sub {xs ys : List Str} (h : okN xs) (hl : ys.length ≤ 100) (hs : ∀ y ∈ ys, y ∈ xs) : okN ys := ⟨hl, fun y hy => h.2 y (hs y hy)⟩
theorem weight_strs : ∀ {xs : List Str}, (∀ x ∈ xs, x.cps.size ≤ 100) → PyData.weightAll (xs.map .str) ≤ 101 * xs.length
  | [], _ => by simp [PyData.weightAll]
  | x :: xs, h => by
    have h1 := h x List.mem_cons_self
    have h2 := weight_strs (xs := xs) fun y hy => h y (List.mem_cons_of_mem _ hy)
    simp only [List.map_cons, PyData.weightAll, PyData.weight, List.length_cons]
    omega
theorem showAll_strs : ∀ xs : List Str, PyData.showableAll (xs.map .str) = true
  | [] => rfl
  | x :: xs => by simp only [List.map_cons, PyData.showableAll, PyData.showable, showAll_strs xs]; rfl
theorem shorts_strs : ∀ xs : List Str, PyData.intsShortAll 13 (xs.map .str) = true := fun xs => PyData.intsShortAll_strs 13 xs
/-- ((needs, knows), sent) -/
theorem shows_eye {a b c : List Str} (ha : okN a) (hb : okN b) (hc : okN c) : shows (.tup [.tup [.tup (a.map .str), .tup (b.map .str)], .tup (c.map .str)]) := by
  have e : toPy (.tup [.tup [.tup (a.map .str), .tup (b.map .str)], .tup (c.map .str)]) = .tuple [.tuple [.tuple (a.map .str), .tuple (b.map .str)], .tuple (c.map .str)] := by
    simp only [toPy, toPys, toPys_map]
  refine ⟨by simp only [noRef, noRefs, noRefs_map]; rfl, ?_, ?_, ?_⟩
  · rw [e]
    have wa := weight_strs fun x hx => (ha.2 x hx).2
    have wb := weight_strs fun x hx => (hb.2 x hx).2
    have wc := weight_strs fun x hx => (hc.2 x hx).2
    have da := depth_map a
    have db := depth_map b
    have dc := depth_map c
    have l1 := ha.1
    have l2 := hb.1
    have l3 := hc.1
    unfold PyData.layable0
    simp only [Bool.and_eq_true, decide_eq_true_eq, PyData.canLay0, PyData.canLayAll0, PyData.depth, PyData.depthAll, PyData.weight, PyData.weightAll, lay_map ha.s, lay_map hb.s, lay_map hc.s]
    refine ⟨⟨⟨⟨trivial, trivial, trivial⟩, trivial, trivial⟩, ?_⟩, ?_⟩
    · have m1 : max (PyData.depthAll (b.map .str) + 1) 0 ≤ 2 := Nat.max_le.mpr ⟨by omega, by decide⟩
      have m2 : max (PyData.depthAll (a.map .str) + 1) (max (PyData.depthAll (b.map .str) + 1) 0) ≤ 2 := Nat.max_le.mpr ⟨by omega, m1⟩
      have m3 : max (PyData.depthAll (c.map .str) + 1) 0 ≤ 2 := Nat.max_le.mpr ⟨by omega, by decide⟩
      have m4 := Nat.max_le.mpr ⟨Nat.succ_le_succ m2, Nat.le_trans m3 (by decide : 2 ≤ 3)⟩
      exact decide_eq_true (Nat.le_trans (Nat.succ_le_succ m4) (by decide))
    · exact decide_eq_true (by omega)
  · rw [e]
    simp only [PyData.intsShort, PyData.intsShortAll, shorts_strs]; rfl
  · rw [e]
    simp only [PyData.showable, PyData.showableAll, showAll_strs]; rfl
theorem shows_bools (a b : Bool) : shows (.lst [.bl a, .bl b]) := by
  cases a <;> cases b <;> (refine ⟨rfl, ?_, ?_, ?_⟩ <;> decide +kernel)
/-! ### the urn -/
def urnA : Int := 10 ^ 300
def urnB : Int := 2305843009213693951
def Urn (h : DH) (u : Nat) : Prop := ∃ a b : Int, h[u]? = some (.lst [.int a, .int b]) ∧ 0 ≤ a ∧ a < urnA ∧ 0 ≤ b ∧ b < urnB
/-- the urn at u may have changed, nothing else -/
structure UM (u : Nat) (h h' : DH) : Prop where
  len : h'.length = h.length
  oth : ∀ j, j ≠ u → h'[j]? = h[j]?
  urn : Urn h' u
theorem UM.trans {u : Nat} {h h1 h2 : DH} (a : UM u h h1) (b : UM u h1 h2) : UM u h h2 := ⟨b.len.trans a.len, fun j hj => (b.oth j hj).trans (a.oth j hj), b.urn⟩
theorem UM.refl {u : Nat} {h : DH} (a : Urn h u) : UM u h h := ⟨rfl, fun _ _ => rfl, a⟩
theorem UM.set {u : Nat} {h : DH} (hu : Urn h u) {a b : Int} (h1 : 0 ≤ a) (h2 : a < urnA) (h3 : 0 ≤ b) (h4 : b < urnB) : UM u h (h.set u (.lst [.int a, .int b])) := by
  obtain ⟨x, y, e, _⟩ := hu
  have hl := (List.getElem?_eq_some_iff.mp e).1
  exact ⟨by simp, fun j hj => List.getElem?_set_ne (fun z => hj z.symm), a, b, List.getElem?_set_self hl, h1, h2, h3, h4⟩
theorem urnA_bits {a : Int} (h0 : 0 ≤ a) (h1 : a < urnA) : a.natAbs < 2 ^ 1000 := by
  have : urnA ≤ ((2 ^ 1000 : Nat) : Int) := by unfold urnA; decide +kernel
  omega
theorem atI_zero {α : Type} (a : α) (r : List α) : atI (a :: r) 0 = some a := by simp [atI, ixN]
theorem atI_one {α : Type} (a b : α) (r : List α) : atI (a :: b :: r) 1 = some b := by
  have h : (1 : Int) < ((a :: b :: r).length : Nat) := by simp; omega
  unfold atI ixN
  rw [if_pos (by decide), if_pos h]; rfl
theorem ixN_zero {n : Nat} (h : 0 < n) : ixN n 0 = some 0 := by unfold ixN; rw [if_pos (by decide), if_pos (by omega)]; rfl
theorem ixN_one {n : Nat} (h : 1 < n) : ixN n 1 = some 1 := by unfold ixN; rw [if_pos (by decide), if_pos (by omega)]; rfl
theorem atI_mem {α : Type} {xs : List α} {i : Int} (h0 : 0 ≤ i) (h1 : i < xs.length) : ∃ x ∈ xs, atI xs i = some x := by
  obtain ⟨j, rfl⟩ := Int.eq_ofNat_of_zero_le h0
  have hj : j < xs.length := by omega
  exact ⟨xs[j], List.getElem_mem hj, atI_nat (by simp [hj])⟩
theorem ten300 : (0 : Int) < 10 ^ 300 := by decide +kernel
theorem text300 : PySem.intText? ((Str.ofString "1") ++ repS (Str.ofString "0") 300) = some (10 ^ 300) := by decide +kernel
theorem b01 (b : Bool) : (if b = true then (1 : Int) else 0).natAbs < 2 ^ 2 := by cases b <;> decide
theorem sq_bd {i : Int} (h0 : 0 ≤ i) (h1 : i ≤ 100) : 0 ≤ 7919 * i * i ∧ 7919 * i * i ≤ 79190000 := by
  have a : 0 ≤ i * i := Int.mul_nonneg h0 h0
  have b : i * i ≤ 100 * 100 := Int.mul_le_mul h1 h1 h0 (by decide)
  have e : 7919 * i * i = 7919 * (i * i) := Int.mul_assoc _ _ _
  rw [e]; omega
theorem urn_new {h : DH} {a b : Int} (h1 : 0 ≤ a) (h2 : a < urnA) (h3 : 0 ≤ b) (h4 : b < urnB) : Urn (h ++ [.lst [.int a, .int b]]) h.length :=
  ⟨a, b, by simp, h1, h2, h3, h4⟩
theorem own_bd {c x : Int} (hx : x = 0 ∨ x = 1) : 0 ≤ c % 10 ^ 300 * x ∧ c % 10 ^ 300 * x < urnA := by
  have h1 := Int.emod_nonneg c (b := 10 ^ 300) (by have := ten300; omega)
  have h2 := Int.emod_lt_of_pos c ten300
  have h3 : urnA = 10 ^ 300 := rfl
  rcases hx with rfl | rfl
  · rw [Int.mul_zero]; exact ⟨Int.le_refl _, by rw [h3]; exact ten300⟩
  · rw [Int.mul_one]; exact ⟨h1, by rw [h3]; exact h2⟩
theorem zo (b : Bool) : (if b = true then (1 : Int) else 0) = 0 ∨ (if b = true then (1 : Int) else 0) = 1 := by cases b <;> simp
/-! names -/
def nameOk (x : Str) : Prop := 1 ≤ x.cps.size ∧ x.cps.size ≤ 8 ∧ ∀ c ∈ x.cps.toList, 97 ≤ c ∧ c ≤ 122
theorem nameOk.ok {x : Str} (h : nameOk x) : PyData.strOk x = true := by
  unfold PyData.strOk
  rw [Array.all_eq_true']
  intro c hc
  have := h.2.2 c (by simpa using hc)
  simp; omega
theorem okN_names {xs : List Str} (hl : xs.length ≤ 100) (h : ∀ x ∈ xs, nameOk x) : okN xs := ⟨hl, fun x hx => ⟨(h x hx).ok, by have := (h x hx).2.1; omega⟩⟩
theorem join_codes : ∀ ys : List Str, (Str.join (Str.ofString "") ys).cps.toList = (ys.map (·.cps.toList)).flatten
  | [] => rfl
  | [x] => by simp [Str.join]
  | x :: y :: r => by
    have ih := join_codes (y :: r)
    show ((x ++ Str.ofString "" ++ Str.join (Str.ofString "") (y :: r)).cps).toList = _
    have e : (x ++ Str.ofString "" ++ Str.join (Str.ofString "") (y :: r)).cps = x.cps ++ (Str.ofString "").cps ++ (Str.join (Str.ofString "") (y :: r)).cps := rfl
    rw [e, Array.toList_append, Array.toList_append, ih]
    have e2 : (Str.ofString "").cps.toList = [] := rfl
    rw [e2]; simp
theorem flat_one : ∀ {ys : List Str} {p : Nat → Prop}, (∀ y ∈ ys, ∃ c, y = ⟨#[c]⟩ ∧ p c) → (ys.map (·.cps.toList)).flatten.length = ys.length ∧ ∀ c ∈ (ys.map (·.cps.toList)).flatten, p c
  | [], p, _ => by simp
  | y :: ys, p, h => by
    obtain ⟨c, rfl, hc⟩ := h y List.mem_cons_self
    have ih := flat_one (ys := ys) (p := p) fun z hz => h z (List.mem_cons_of_mem _ hz)
    refine ⟨by simp [ih.1], fun d hd => ?_⟩
    simp only [List.map_cons, List.flatten_cons, List.mem_append] at hd
    rcases hd with hd | hd
    · simp at hd; exact hd ▸ hc
    · exact ih.2 d hd
theorem app_codes (a b : Str) : (a ++ b).cps.toList = a.cps.toList ++ b.cps.toList := by
  show (a.cps ++ b.cps).toList = _
  simp
theorem app_size (a b : Str) : (a ++ b).cps.size = a.cps.size + b.cps.size := by
  show (a.cps ++ b.cps).size = _
  simp
/-- every item gives one; the heap under an invariant -/
theorem lc_each {i : Nat} {e : W1} {ok : DH → Prop} {ρ : Rho} {fin : List D → DH → Prop} (J : DH → Prop) (R : D → D → Prop) (hok : ∀ h, J h → ok h) : ∀ {its acc : List D} {h : DH},
    (∀ x ∈ its, ∀ h, J h → ∀ k : K1, (∀ y h', J h' → R x y → k y h') → e (ρ.set i (some x)) h k) → J h → acc.length + its.length ≤ sizeLine →
    (∀ out h', J h' → (∀ y ∈ out, ∃ x ∈ its, R x y) → out.length = its.length → fin (acc ++ out) h') → lcGo (.n i) wYes e ok ρ fin its acc h
  | [], acc, h, _, j, _, hf => ⟨hok h j, by simpa using hf [] h j (by simp) (by simp)⟩
  | x :: its, acc, h, he, j, hz, hf => by
    refine ⟨hok h j, _, rfl, ?_⟩
    show e (ρ.set i (some x)) h (fun y h2 => acc.length < sizeLine ∧ lcGo (.n i) wYes e ok ρ fin its (acc ++ [y]) h2)
    refine he x List.mem_cons_self h j _ fun y h2 j2 r => ⟨by simp at hz; omega, lc_each J R hok (fun z hz => he z (List.mem_cons_of_mem _ hz)) j2 (by simp at hz ⊢; omega) fun out h' j' hR hl => ?_⟩
    have := hf (y :: out) h' j' (fun z hz => by
      rcases List.mem_cons.mp hz with e | hz
      · exact ⟨x, List.mem_cons_self, e ▸ r⟩
      · obtain ⟨u, hu, ru⟩ := hR z hz
        exact ⟨u, List.mem_cons_of_mem _ hu, ru⟩) (by simp; omega)
    simpa using this
theorem unstr : ∀ {out : List D} {p : Str → Prop}, (∀ y ∈ out, ∃ s, y = .str s ∧ p s) → ∃ ys : List Str, out = ys.map .str ∧ ys.length = out.length ∧ ∀ y ∈ ys, p y
  | [], p, _ => ⟨[], rfl, rfl, by simp⟩
  | y :: out, p, h => by
    obtain ⟨s, rfl, hs⟩ := h y List.mem_cons_self
    obtain ⟨ys, e, hl, hp⟩ := unstr (out := out) (p := p) fun z hz => h z (List.mem_cons_of_mem _ hz)
    refine ⟨s :: ys, by simp [e], by simp [hl], fun z hz => ?_⟩
    rcases List.mem_cons.mp hz with e | hz
    · exact e ▸ hs
    · exact hp z hz
theorem mem_dints {lo : Int} {n : Nat} {x : D} (h : x ∈ dints lo n) : ∃ i : Nat, i < n ∧ x = .int (lo + i) := by
  unfold dints at h
  obtain ⟨i, hi, e⟩ := List.mem_map.mp h
  exact ⟨i, List.mem_range.mp hi, e.symm⟩
theorem dints_len (lo : Int) (n : Nat) : (dints lo n).length = n := by simp [dints]
theorem join_name {ys : List Str} (h : ∀ y ∈ ys, ∃ c, y = ⟨#[c]⟩ ∧ 97 ≤ c ∧ c ≤ 122) : (Txt.join (Str.ofString "") ys).cps.size = ys.length ∧ ∀ c ∈ (Txt.join (Str.ofString "") ys).cps.toList, 97 ≤ c ∧ c ≤ 122 := by
  have e : Txt.join (Str.ofString "") ys = Str.join (Str.ofString "") ys := TL.join_eq _ _
  have f := flat_one (p := fun c => 97 ≤ c ∧ c ≤ 122) h
  rw [e]
  refine ⟨?_, ?_⟩
  · rw [← Array.length_toList, join_codes]; exact f.1
  · rw [join_codes]; exact f.2
theorem app_name {s : Str} {c : Nat} (hs : s.cps.size ≤ 7) (h : ∀ d ∈ s.cps.toList, 97 ≤ d ∧ d ≤ 122) (hc : 97 ≤ c ∧ c ≤ 122) : nameOk (s ++ ⟨#[c]⟩) ∧ nameOk (⟨#[c]⟩ ++ s) := by
  refine ⟨⟨?_, ?_, ?_⟩, ?_, ?_, ?_⟩
  · rw [app_size]; simp
  · rw [app_size]; simp; omega
  · rw [app_codes]
    intro d hd
    rcases List.mem_append.mp hd with z | z
    · exact h d z
    · simp at z; exact z ▸ hc
  · rw [app_size]; simp
  · rw [app_size]; simp; omega
  · rw [app_codes]
    intro d hd
    rcases List.mem_append.mp hd with z | z
    · simp at z; exact z ▸ hc
    · exact h d z
theorem sum_one : ∀ {ys : List Str} {p : Nat → Prop}, (∀ y ∈ ys, ∃ c, y = ⟨#[c]⟩ ∧ p c) → (ys.map (·.length)).sum = ys.length
  | [], p, _ => rfl
  | y :: ys, p, h => by
    obtain ⟨c, rfl, _⟩ := h y List.mem_cons_self
    have ih := sum_one (ys := ys) (p := p) fun z hz => h z (List.mem_cons_of_mem _ hz)
    rw [List.map_cons, List.sum_cons, ih, List.length_cons]
    show 1 + _ = _
    omega
end Vf

namespace Vf
open PySem PySem.Spec PyProof.Rows L2
/-- the leaps of a full round: 0, 1, 6, 31 .. -/
def leaps : Nat → Nat
  | 0 => 0
  | n + 1 => 5 * leaps n + 1
theorem leaps_add (a b : Nat) : leaps (a + b) = 5 ^ a * leaps b + leaps a := by
  induction a with
  | zero => simp [leaps]
  | succ a ih =>
    have : a + 1 + b = (a + b) + 1 := by omega
    rw [this, leaps, ih, leaps, Nat.pow_succ, Nat.mul_add, Nat.add_assoc]
    congr 1
    rw [← Nat.mul_assoc, Nat.mul_comm 5 (5 ^ a)]
theorem five4 (n : Nat) : ∃ r, 5 ^ n = 4 * r + 1 := by
  induction n with
  | zero => exact ⟨0, rfl⟩
  | succ n ih =>
    obtain ⟨r, e⟩ := ih
    exact ⟨5 * r + 1, by rw [Nat.pow_succ, e]; omega⟩
theorem odd_mul {a b : Nat} : (2 * a + 1) * (2 * b + 1) = 2 * (2 * (a * b) + a + b) + 1 := by
  rw [Nat.add_mul, Nat.mul_add, Nat.mul_add]
  have : 2 * a * (2 * b) = 4 * (a * b) := by
    rw [Nat.mul_mul_mul_comm]
  omega
theorem leaps_pow (k : Nat) : ∃ q, leaps (2 ^ k) = 2 ^ k * (2 * q + 1) := by
  induction k with
  | zero => exact ⟨0, rfl⟩
  | succ k ih =>
    obtain ⟨q, e⟩ := ih
    obtain ⟨r, e5⟩ := five4 (2 ^ k)
    refine ⟨2 * (q * r) + q + r, ?_⟩
    have h2 : 2 ^ (k + 1) = 2 ^ k + 2 ^ k := by rw [Nat.pow_succ]; omega
    rw [h2, leaps_add, e, e5, ← odd_mul (a := q) (b := r)]
    generalize 2 ^ k = N
    generalize hz : (2 * q + 1) = o
    have : (4 * r + 1) * (N * o) + N * o = (4 * r + 2) * (N * o) := by
      rw [show 4 * r + 2 = 4 * r + 1 + 1 from rfl, Nat.add_mul (4 * r + 1) 1, Nat.one_mul]
    rw [this, show 4 * r + 2 = 2 * (2 * r + 1) by omega, show N + N = 2 * N by omega]
    rw [Nat.mul_assoc, Nat.mul_assoc]
    congr 1
    rw [Nat.mul_comm (2 * r + 1), Nat.mul_assoc]
theorem leaps_onto (k : Nat) : ∀ j, ∃ d, d < 2 ^ k ∧ leaps d % 2 ^ k = j % 2 ^ k := by
  induction k with
  | zero => intro j; exact ⟨0, by decide, by rw [Nat.pow_zero, Nat.mod_one, Nat.mod_one]⟩
  | succ k ih =>
    intro j
    obtain ⟨d, hd, e⟩ := ih j
    obtain ⟨q, eq⟩ := leaps_pow k
    obtain ⟨r, e5⟩ := five4 d
    have hN : 0 < 2 ^ k := Nat.two_pow_pos k
    have h2 : 2 ^ (k + 1) = 2 ^ k * 2 := Nat.pow_succ ..
    have ge : leaps (d + 2 ^ k) = leaps d + 2 ^ k * (2 * (2 * (2 * r * q) + 2 * r + q) + 1) := by
      rw [leaps_add, eq, e5, Nat.add_comm]
      congr 1
      rw [← odd_mul (a := 2 * r) (b := q), ← Nat.mul_assoc, ← Nat.mul_assoc, Nat.mul_comm _ (2 ^ k), show 4 * r = 2 * (2 * r) by omega]
    rw [h2]
    generalize hM : 2 ^ k = N at *
    by_cases c : leaps d / N % 2 = j / N % 2
    · exact ⟨d, by omega, by rw [Nat.mod_mul, Nat.mod_mul, e, c]⟩
    · refine ⟨d + N, by omega, ?_⟩
      rw [ge, Nat.mod_mul, Nat.mod_mul, Nat.add_mul_mod_self_left, Nat.add_mul_div_left _ _ hN, e]
      congr 2
      omega
theorem leaps_reach (k : Nat) {i j : Nat} (hi : i < 2 ^ k) (hj : j < 2 ^ k) : ∃ d, d < 2 ^ k ∧ (5 ^ d * i + leaps d) % 2 ^ k = j := by
  obtain ⟨a, ha, ea⟩ := leaps_onto k i
  obtain ⟨b, hb, eb⟩ := leaps_onto k j
  obtain ⟨q, eq⟩ := leaps_pow k
  rw [Nat.mod_eq_of_lt hi] at ea
  rw [Nat.mod_eq_of_lt hj] at eb
  have go : ∀ d c, c = a + d → leaps c % 2 ^ k = j → (5 ^ d * i + leaps d) % 2 ^ k = j := by
    intro d c hc e
    rw [hc, Nat.add_comm, leaps_add] at e
    rw [Nat.add_mod, Nat.mul_mod, ← ea, Nat.mod_mod, ← Nat.mul_mod, ← Nat.add_mod]
    exact e
  by_cases c : a ≤ b
  · exact ⟨b - a, by omega, go _ b (by omega) eb⟩
  · refine ⟨b + 2 ^ k - a, by omega, go _ (b + 2 ^ k) (by omega) ?_⟩
    rw [leaps_add, eq, ← Nat.mul_assoc, Nat.mul_comm _ (2 ^ k), Nat.mul_assoc, Nat.add_comm, Nat.add_mul_mod_self_left]
    exact eb
section
variable {mask : Nat} {owner : Array (Option Nat)}
theorem free_step (fuel i p : Nat) : (∃ r, SetTable.layClean.free mask owner (fuel + 1) i p = some r ∧ owner.getD r (some 0) = none) ∨
    (owner.getD i (some 0) ≠ none ∧ SetTable.layClean.free mask owner (fuel + 1) i p = SetTable.layClean.free mask owner fuel ((i * 5 + 1 + p / 32) % (mask + 1)) (p / 32)) := by
  rw [SetTable.layClean.free]
  cases hf : (List.range (SetTable.runEnd mask i + 1 - i)).find? fun k => (owner.getD (i + k) (some 0)).isNone with
  | some k =>
    refine .inl ⟨i + k, rfl, ?_⟩
    have := List.find?_some hf
    exact Option.isNone_iff_eq_none.mp this
  | none =>
    refine .inr ⟨fun z => ?_, rfl⟩
    have := List.find?_eq_none.mp hf 0 (by rw [List.mem_range]; unfold SetTable.runEnd; split <;> omega)
    rw [Nat.add_zero, z] at this
    exact this rfl
theorem free_zero {j : Nat} (ho : owner.getD j (some 0) = none) : ∀ (d fuel i : Nat), d < fuel → (5 ^ d * i + leaps d) % (mask + 1) = j → i ≤ mask →
    ∃ r, SetTable.layClean.free mask owner fuel i 0 = some r ∧ owner.getD r (some 0) = none := by
  intro d
  induction d with
  | zero =>
    intro fuel i hf e hi
    obtain ⟨f, rfl⟩ : ∃ f, fuel = f + 1 := ⟨fuel - 1, by omega⟩
    rcases free_step (mask := mask) (owner := owner) f i 0 with h | ⟨h, _⟩
    · exact h
    · have : i = j := by
        rw [leaps, Nat.pow_zero, Nat.one_mul, Nat.add_zero, Nat.mod_eq_of_lt (by omega)] at e
        exact e
      exact absurd (this ▸ ho) h
  | succ d ih =>
    intro fuel i hf e hi
    obtain ⟨f, rfl⟩ : ∃ f, fuel = f + 1 := ⟨fuel - 1, by omega⟩
    rcases free_step (mask := mask) (owner := owner) f i 0 with h | ⟨_, h⟩
    · exact h
    · rw [h]
      refine ih f _ (by omega) ?_ (Nat.le_of_lt_succ (Nat.mod_lt _ (by omega)))
      rw [Nat.add_mod, Nat.mul_mod, Nat.mod_mod, ← Nat.mul_mod, ← Nat.add_mod, Nat.zero_div, Nat.add_zero, ← e]
      congr 1
      have h1 : leaps (d + 1) = 5 ^ d + leaps d := by
        rw [leaps_add]; simp [leaps]
      rw [h1, Nat.mul_add, Nat.mul_one, Nat.pow_succ, ← Nat.add_assoc]
      congr 2
      rw [Nat.mul_comm i 5, Nat.mul_assoc]
theorem free_any {k j : Nat} (hk : mask + 1 = 2 ^ k) (hj : j ≤ mask) (ho : owner.getD j (some 0) = none) : ∀ (m p fuel i : Nat), p < 32 ^ m → m + mask + 1 ≤ fuel → i ≤ mask →
    ∃ r, SetTable.layClean.free mask owner fuel i p = some r ∧ owner.getD r (some 0) = none := by
  intro m
  induction m with
  | zero =>
    intro p fuel i hp hf hi
    obtain rfl : p = 0 := by rw [Nat.pow_zero] at hp; omega
    obtain ⟨d, hd, e⟩ := leaps_reach k (i := i) (j := j) (by omega) (by omega)
    exact free_zero ho d fuel i (by omega) (by rw [hk]; exact e) hi
  | succ m ih =>
    intro p fuel i hp hf hi
    obtain ⟨f, rfl⟩ : ∃ f, fuel = f + 1 := ⟨fuel - 1, by omega⟩
    rcases free_step (mask := mask) (owner := owner) f i p with h | ⟨_, h⟩
    · exact h
    · rw [h]
      refine ih _ f _ ?_ (by omega) (Nat.le_of_lt_succ (Nat.mod_lt _ (by omega)))
      rw [Nat.pow_succ] at hp
      exact Nat.div_lt_of_lt_mul (by rw [Nat.mul_comm]; exact hp)
end
section
variable {mask : Nat}
theorem filterMap_id_set : ∀ (l : List (Option Nat)) (j k : Nat), l[j]? = some none → ((l.set j (some k)).filterMap id).Perm (k :: l.filterMap id)
  | [], j, k, h => by simp at h
  | o :: l, 0, k, h => by
    have : o = none := by simpa using h
    subst this
    simp
  | o :: l, j + 1, k, h => by
    have ih := filterMap_id_set l j k (by simpa using h)
    rw [List.set_cons_succ]
    cases o with
    | none => simpa using ih
    | some x =>
      simp only [List.filterMap_cons, id_eq]
      exact (List.Perm.cons x ih).trans (List.Perm.swap ..)
theorem none_of_few : ∀ (l : List (Option Nat)), (l.filterMap id).length < l.length → ∃ j : Nat, j < l.length ∧ l[j]? = some none
  | [], h => by simp at h
  | none :: l, h => ⟨0, by simp, rfl⟩
  | some x :: l, h => by
    obtain ⟨j, hj, e⟩ := none_of_few l (by simpa using h)
    exact ⟨j + 1, by simp; omega, by simpa using e⟩
theorem getD_none {owner : Array (Option Nat)} {j : Nat} : owner.getD j (some 0) = none ↔ owner.toList[j]? = some none := by
  rw [Array.getD_eq_getD_getElem?, Array.getElem?_toList]
  cases owner[j]? with
  | none => simp
  | some o => simp
theorem bits_lt (h : Int) : SetTable.bits h < 32 ^ 13 := by
  unfold SetTable.bits
  have : h % (2 ^ 64 : Int) < 2 ^ 64 := Int.emod_lt_of_pos _ (by decide)
  have : 0 ≤ h % (2 ^ 64 : Int) := Int.emod_nonneg _ (by decide)
  have : (32 : Nat) ^ 13 = 36893488147419103232 := by decide
  have : (2 : Int) ^ 64 = 18446744073709551616 := by decide
  omega
theorem lay_fold {k : Nat} (hk : mask + 1 = 2 ^ k) : ∀ (hs : List Int) (owner : Array (Option Nat)) (c : Nat), owner.size = mask + 1 → (owner.toList.filterMap id).Perm (List.range c) → c + hs.length ≤ mask + 1 →
    ∃ ow, hs.foldl (fun (acc : Option (Array (Option Nat) × Nat)) h => do
      let (owner, k) ← acc
      let j ← SetTable.layClean.free mask owner (SetTable.turns mask) (SetTable.bits h % (mask + 1)) (SetTable.bits h)
      pure (owner.setIfInBounds j (some k), k + 1)) (some (owner, c)) = some (ow, c + hs.length) ∧ ow.size = mask + 1 ∧ (ow.toList.filterMap id).Perm (List.range (c + hs.length))
  | [], owner, c, h1, h2, _ => ⟨owner, rfl, h1, h2⟩
  | h :: hs, owner, c, h1, h2, h3 => by
    simp only [List.length_cons] at h3
    have hl : (owner.toList.filterMap id).length < owner.toList.length := by
      rw [h2.length_eq, List.length_range, Array.length_toList, h1]; omega
    obtain ⟨j, hj, e⟩ := none_of_few _ hl
    rw [Array.length_toList, h1] at hj
    obtain ⟨r, hr, er⟩ := free_any hk (by omega) (getD_none.mpr e) 13 (SetTable.bits h) (SetTable.turns mask) (SetTable.bits h % (mask + 1)) (bits_lt h) (by unfold SetTable.turns; omega) (Nat.le_of_lt_succ (Nat.mod_lt _ (by omega)))
    have step : (do
      let (owner, k) ← some (owner, c)
      let j ← SetTable.layClean.free mask owner (SetTable.turns mask) (SetTable.bits h % (mask + 1)) (SetTable.bits h)
      pure (owner.setIfInBounds j (some k), k + 1)) = some (owner.setIfInBounds r (some c), c + 1) := by
      show (SetTable.layClean.free mask owner (SetTable.turns mask) (SetTable.bits h % (mask + 1)) (SetTable.bits h)).bind _ = _
      rw [hr]; rfl
    rw [List.foldl_cons, step]
    obtain ⟨ow, a1, a2, a3⟩ := lay_fold hk hs (owner.setIfInBounds r (some c)) (c + 1) (by simpa using h1) (by
      rw [Array.toList_setIfInBounds]
      refine (filterMap_id_set _ r c (getD_none.mp er)).trans ?_
      rw [List.range_succ]
      exact (List.Perm.cons c h2).trans (List.perm_append_singleton _ _).symm) (by omega)
    refine ⟨ow, ?_, a2, ?_⟩
    · rw [a1, List.length_cons]; congr 2; omega
    · rw [List.length_cons, show c + (hs.length + 1) = c + 1 + hs.length by omega]; exact a3
theorem layClean_ok {k : Nat} (hk : mask + 1 = 2 ^ k) (hs : Array Int) (hn : hs.size ≤ mask + 1) : ∃ owner, SetTable.layClean mask hs = some owner ∧ owner.size = mask + 1 ∧ (owner.toList.filterMap id).Perm (List.range hs.size) := by
  obtain ⟨ow, a1, a2, a3⟩ := lay_fold hk hs.toList (Array.replicate (mask + 1) none) 0 (by simp) (by
    rw [Array.toList_replicate]
    have : (List.replicate (mask + 1) (none : Option Nat)).filterMap id = [] := by
      rw [List.filterMap_eq_nil_iff]
      intro a ha
      rw [List.eq_of_mem_replicate ha]; rfl
    rw [this]; exact List.Perm.nil) (by rw [Array.length_toList]; omega)
  refine ⟨ow, ?_, a2, by simpa using a3⟩
  unfold SetTable.layClean
  rw [← Array.foldl_toList]
  exact congrArg (Option.map Prod.fst) a1
theorem range_getD (l : List (Option Nat)) : (List.range l.length).filterMap (fun j => l.getD j none) = l.filterMap id := by
  have : (List.range l.length).map (fun j => l.getD j none) = l := by
    apply List.ext_getElem
    · simp
    · intro i h1 h2
      simp at h1
      simp [h1]
  conv => rhs; rw [← this]
  rw [List.filterMap_map]; rfl
theorem laid_ok {k : Nat} (hk : mask + 1 = 2 ^ k) (f mv : Nat) (ld pl : Bool) (hs : Array Int) (hn : hs.size ≤ mask) :
    ∃ place order, SetTable.laid mask f mv ld pl hs = some ({ mask, place, dummies := #[], finger := f, led := ld, moves := mv, plain := pl }, order) ∧ place.size = hs.size ∧ Ris place.toList ∧ order.toList.Perm (List.range hs.size) := by
  obtain ⟨ow, a1, a2, a3⟩ := layClean_ok hk hs (by omega)
  have e2 : (((List.range (mask + 1)).filterMap fun j => (ow.getD j none).map (j, ·)).map (·.2)) = ow.toList.filterMap id := by
    rw [List.map_filterMap, ← range_getD, Array.length_toList, a2]
    congr 1
    funext j
    rw [List.getD_eq_getElem?_getD, Array.getElem?_toList, Array.getD_eq_getD_getElem?]
    cases ow[j]?.getD none <;> rfl
  refine ⟨(((List.range (mask + 1)).filterMap fun j => (ow.getD j none).map (j, ·)).map (·.1)).toArray, (((List.range (mask + 1)).filterMap fun j => (ow.getD j none).map (j, ·)).map (·.2)).toArray, ?_, ?_, ?_, ?_⟩
  · unfold SetTable.laid
    rw [a1]; rfl
  · have := congrArg List.length e2
    rw [List.length_map, a3.length_eq, List.length_range] at this
    simpa using this
  · refine (ris_live (fun j => ow.getD j none) (List.range (mask + 1)) ?_).1
    unfold Ris
    first | exact List.pairwise_lt_range | exact List.pairwise_lt_range _
  · show List.Perm (((List.range (mask + 1)).filterMap fun j => (ow.getD j none).map (j, ·)).map (·.2)) _
    rw [e2]; exact a3
theorem order_perm {α : Type} (es : Array α) (order : Array Nat) (h : order.toList.Perm (List.range es.size)) : (order.filterMap (es[·]?)).toList.Perm es.toList := by
  rw [Array.toList_filterMap]
  refine (h.filterMap _).trans ?_
  have : (List.range es.size).filterMap (fun i => es[i]?) = es.toList := by
    have h2 : (List.range es.size).map (fun i => es[i]?) = es.toList.map some := by
      apply List.ext_getElem
      · simp
      · intro i h1 h2
        simp at h1
        simp [h1]
    rw [show (fun i => es[i]?) = (id ∘ fun i => es[i]?) from rfl, ← List.filterMap_map, h2, List.filterMap_map]
    simp
  rw [this]
theorem sizeAbove_pow : ∀ (f k n : Nat), (∃ j, SetTable.sizeAbove.go n f (2 ^ k) = 2 ^ j ∧ k ≤ j)
  | 0, k, n => ⟨k, rfl, Nat.le_refl _⟩
  | f + 1, k, n => by
    rw [SetTable.sizeAbove.go]
    split
    · rw [← Nat.pow_succ]
      obtain ⟨j, e, h⟩ := sizeAbove_pow f (k + 1) n
      exact ⟨j, e, by omega⟩
    · exact ⟨k, rfl, Nat.le_refl _⟩
end
end Vf

namespace Vf
open PySem PySem.Spec PyProof.Rows L2
section
variable {P : Program} {w : World} {A : Around} {E : Value → Shared → Prop} {s : Shared} {a : Addr} {S : Str → Bool} {n m : Nat}
theorem quietX {Q : Bool → Shared → Prop} (sets : List Addr) (h : ∀ a ∈ sets, ∃ S n, SetX w s.heap a S n) (hQ : Q true s) : wpAny (model P w) A (setsQuiet sets) Q E s := by
  unfold setsQuiet
  refine wpAny_bind (wpAny_forIn_list _ (fun rest b s' => s' = s ∧ b = (none, ()) ∧ ∀ a ∈ rest, ∃ S n, SetX w s.heap a S n) _ ?_ ?_ _ _ ⟨rfl, rfl, h⟩)
  · rintro x rest b s' ⟨rfl, rfl, hr⟩
    obtain ⟨S, n, ob, es, ep, t, ho, hex, hd, g, nd, hm, hb, hf, hn, hri, hl⟩ := hr x List.mem_cons_self
    refine wpAny_bind (wpAny_setEntries_of ho hd hf ?_)
    refine wpAny_bind (wpAny_forIn_array' _ (fun rest b s1 => s1 = s' ∧ b = (none, ()) ∧ ∀ e ∈ rest, TxtE w e) _ ?_ ?_ _ _ ⟨rfl, rfl, g⟩)
    · rintro ⟨i, v⟩ rest b s1 ⟨rfl, rfl, hg⟩
      obtain ⟨k, tk, e1, e2⟩ := hg _ List.mem_cons_self
      dsimp only at e1
      subst e1
      exact wpAny_pure ⟨rfl, rfl, fun e he => hg e (List.mem_cons_of_mem _ he)⟩
    · rintro b s1 ⟨rfl, rfl, _⟩
      exact wpAny_pure ⟨rfl, rfl, fun a ha => hr a (List.mem_cons_of_mem _ ha)⟩
  · rintro b s' ⟨rfl, rfl, _⟩
    exact wpAny_pure hQ
/-- a set of texts whose table, while it is empty, has a power of two -/
def SetXP (w : World) (h : Heap) (a : Addr) (S : Str → Bool) (n m : Nat) : Prop := ∃ ob es ep t, h.get? a = some ob ∧ ob.ExactSet ∧ ob.data = .set es ep t ∧ (∀ e ∈ es.toList, TxtE w e) ∧
  (es.toList.map txtOf).Nodup ∧ (∀ k, S k = true ↔ k ∈ es.toList.map txtOf) ∧ es.size < scanBound ∧ t.fits es.size = true ∧ es.size = n ∧ Ris t.place.toList ∧ (w.params.followText "set-order" = true ∨ t.led = true) ∧
  (t.fill = 0 → ∃ k, t.mask + 1 = 2 ^ k ∧ m ≤ t.mask)
theorem SetXP.x {h : Heap} (R : SetXP w h a S n m) : SetX w h a S n :=
  let ⟨ob, es, ep, t, ho, hex, hd, g, nd, hm, hb, hf, hn, hri, hl, _⟩ := R
  ⟨ob, es, ep, t, ho, hex, hd, g, nd, hm, hb, hf, hn, hri, hl⟩
theorem SetXP.keep {h h' : Heap} (R : SetXP w h a S n m) (k : ∀ o, h.get? a = some o → h'.get? a = some o) : SetXP w h' a S n m :=
  let ⟨ob, es, ep, t, ho, r⟩ := R; ⟨ob, es, ep, t, k ob ho, r⟩
theorem SetX.p {h : Heap} (R : SetX w h a S n) (hn : n ≠ 0) : SetXP w h a S n m :=
  let ⟨ob, es, ep, t, ho, hex, hd, g, nd, hm, hb, hf, hz, hri, hl⟩ := R
  ⟨ob, es, ep, t, ho, hex, hd, g, nd, hm, hb, hf, hz, hri, hl, fun z => by
    exfalso
    unfold SetTable.fits at hf
    unfold SetTable.fill at z
    simp only [Bool.and_eq_true, beq_iff_eq] at hf
    omega⟩
theorem walkX_set {o : Addr} {ob : Obj} {es : Array (Int × Value)} {ep : Nat} {t : SetTable} {Q : Array (Int × Value) → Shared → Prop} (ho : s.heap.get? o = some ob) (hd : ob.data = .set es ep t) (hf : t.fits es.size = true)
    (hc : (w.params.followText "set-order" || (t.led && t.plain) || decide (es.size ≤ 1)) = true) (hl : w.params.followText "set-order" = true ∨ t.led = true)
    (hQ : ∀ arr : Array (Int × Value), arr.toList.Perm es.toList → Q arr s) : wpAny (model P w) A (setWalk o) Q E s := by
  unfold setWalk
  refine wpAny_bind (wpAny_setState_of ho hd hf ?_)
  dsimp only
  refine wpAny_bind (wpAny_byText ?_)
  by_cases hbt : w.params.followText "set-order" = true
  · refine wp_if_pos hbt ?_
    exact wpAny_bind (wpAny_askSetting (wpAny_pure (hQ _ (pick_perm _ _))))
  · refine wp_if_neg hbt ?_
    try refine wpAny_bind (wpAny_pure ?_)
    have hl' := hl.resolve_left hbt
    refine wp_if_neg (by
      show ¬ ((!t.plain && decide (es.size > 1)) = true)
      simp only [Bool.or_eq_true, Bool.and_eq_true, decide_eq_true_eq] at hc
      rcases hc with (h | ⟨_, h⟩) | h
      · exact absurd h hbt
      · simp [h]
      · simp; intro _; exact h) ?_
    try refine wpAny_bind (wpAny_pure ?_)
    refine wpAny_bind (wpAny_of_eq (a := ()) ?_ ?_)
    · show (if (!t.led && decide (es.size > 1)) = true then unsupported "set:maker-not-led" else pure ()) = pure ()
      rw [hl'] <;> rfl
    · exact wpAny_pure (hQ _ (List.Perm.refl _))
theorem walkX {o f : Addr} {S' : Str → Bool} {n' : Nat} {others : List Addr} {Q : Array (Int × Value) → Shared → Prop} (Ro : SetX w s.heap o S n) (Rf : SetXP w s.heap f S' n' m) (hne : f ≠ o) (hot : ∀ a ∈ others, ∃ S n, SetX w s.heap a S n)
    (hQ : ∀ (arr : Array (Int × Value)) (h' : Heap), Heap.SameBut f s.heap h' → SetXP w h' f S' n' m → (∀ e ∈ arr.toList, TxtE w e) → (arr.toList.map txtOf).Nodup → (∀ k, S k = true ↔ k ∈ arr.toList.map txtOf) → arr.size = n → Q arr { s with heap := h' }) :
    wpAny (model P w) A (setWalkUnseen o others (some f)) Q E s := by
  have Ro' := Ro
  obtain ⟨ob, es, ep, t, ho, hex, hd, g, nd, hm, hb, hf, hn, hri, hl⟩ := Ro
  unfold setWalkUnseen
  refine wpAny_bind (wpAny_setState_of ho hd hf ?_)
  dsimp only
  refine wpAny_bind (wpAny_byText ?_)
  have fin : ∀ arr : Array (Int × Value), arr.toList.Perm es.toList → ∀ h', Heap.SameBut f s.heap h' → SetXP w h' f S' n' m → Q arr { s with heap := h' } := by
    intro arr pm h' sb rf
    refine hQ arr h' sb rf (fun e he => g e (pm.mem_iff.mp he)) ((pm.map txtOf).nodup_iff.mpr nd) (fun k => (hm k).trans (pm.map txtOf).mem_iff.symm) ?_
    have := pm.length_eq
    simp only [Array.length_toList] at this
    omega
  by_cases hc : (w.params.followText "set-order" || (t.led && t.plain) || decide (es.size ≤ 1)) = true
  · refine wp_if_pos hc ?_
    refine walkX_set ho hd hf hc hl (fun arr pm => fin arr pm s.heap (Heap.SameBut.refl _ _) Rf)
  · refine wp_if_neg hc ?_
    refine wpAny_bind (quietX (o :: others) (fun a ha => ?_) ?_)
    · rcases List.mem_cons.mp ha with h | h
      · exact ⟨S, n, h ▸ Ro'⟩
      · exact hot a h
    · refine wp_if_neg (by simp) ?_
      refine wpAny_bind (wpAny_rule ?_)
      obtain ⟨ob2, es2, ep2, t2, ho2, hex2, hd2, g2, nd2, hm2, hb2, hf2, hn2, hri2, hl2, hp2⟩ := Rf
      refine wpAny_bind (wpAny_setState_of ho2 hd2 hf2 ?_)
      dsimp only
      split
      · refine wpAny_bind (wpAny_storeSet_of ho2 hd2 ?_ (fits_of_scanBound hb2))
        have k1 := store_at (es' := es2) (t' := { t2 with led := t2.led && t.led, plain := t2.plain && t.plain }) ho2 hd2
        refine wpAny_pure (fin _ (List.Perm.refl _) _ (Heap.SameBut.update s.heap f _) ⟨_, es2, _, _, k1, hex2, rfl, g2, nd2, hm2, hb2, hf2, hn2, hri2, ?_, hp2⟩)
        rcases hl with z | z
        · exact .inl z
        · rcases hl2 with z2 | z2
          · exact .inl z2
          · exact .inr (by show (t2.led && t.led) = true; rw [z, z2]; rfl)
      · exact wpAny_pure (fin _ (List.Perm.refl _) _ (Heap.SameBut.refl _ _) ⟨ob2, es2, ep2, t2, ho2, hex2, hd2, g2, nd2, hm2, hb2, hf2, hn2, hri2, hl2, hp2⟩)
theorem sizeAbove_gt : ∀ (f size n : Nat), n < size * 2 ^ f → n < SetTable.sizeAbove.go n f size
  | 0, size, n, h => by simpa [SetTable.sizeAbove.go] using h
  | f + 1, size, n, h => by
    rw [SetTable.sizeAbove.go]
    split
    · exact sizeAbove_gt f _ n (by rw [Nat.pow_succ] at h; rw [Nat.mul_assoc, Nat.mul_comm 2]; exact h)
    · omega
theorem sizeAbove_le : ∀ (f size n b : Nat), n ≤ b → size ≤ 2 * b → SetTable.sizeAbove.go n f size ≤ 2 * b
  | 0, size, n, b, _, h => by rw [SetTable.sizeAbove.go]; exact h
  | f + 1, size, n, b, hn, h => by
    rw [SetTable.sizeAbove.go]
    split
    · exact sizeAbove_le f _ n b hn (by omega)
    · exact h
theorem relayX {wanted : Nat} {Q : Unit → Shared → Prop} (R : SetXP w s.heap a S n m) (h1 : n ≤ wanted) (h2 : wanted ≤ 65536)
    (hQ : ∀ h', Heap.SameBut a s.heap h' → SetXP w h' a S n wanted → Q () { s with heap := h' }) : wpAny (model P w) A (setRelay a wanted) Q E s := by
  obtain ⟨ob, es, ep, t, ho, hex, hd, g, nd, hm, hb, hf, hn, hri, hl, hp⟩ := R
  unfold setRelay
  refine wpAny_bind (wpAny_setState_of ho hd hf ?_)
  dsimp only
  have hle : SetTable.sizeAbove wanted ≤ 131072 := by
    have := sizeAbove_le 64 8 wanted 65536 h2 (by omega)
    unfold SetTable.sizeAbove; omega
  have hgt : wanted < SetTable.sizeAbove wanted := sizeAbove_gt 64 8 wanted (by
    have : (8 : Nat) * 2 ^ 64 = 147573952589676412928 := by decide
    omega)
  obtain ⟨k, hk, _⟩ := sizeAbove_pow 64 3 wanted
  have hk' : SetTable.sizeAbove wanted - 1 + 1 = 2 ^ k := by
    have : SetTable.sizeAbove wanted = 2 ^ k := hk
    omega
  refine wp_if_neg (by rw [sizeLine_eq]; omega) ?_
  try refine wpAny_bind (wpAny_pure ?_)
  obtain ⟨place, order, hq, hz, hri', hpm⟩ := laid_ok hk' t.finger (t.movedTo (SetTable.sizeAbove wanted - 1)) t.led t.plain (es.map (·.1)) (by rw [Array.size_map]; omega)
  have hrel : t.relaid (es.map (·.1)) wanted = _ := hq
  rw [hrel]
  rw [Array.size_map] at hz hpm
  have pm := order_perm es order hpm
  have sz : (order.filterMap (es[·]?)).size = es.size := by
    have := pm.length_eq
    rw [Array.length_toList, Array.length_toList] at this
    exact this
  refine wpAny_bind (?_ : wpAny _ _ _ _ _ _)
  show wpAny _ _ (do
    if (order.filterMap (es[·]?)).size != es.size then unsupported "internal:set-table-lost-an-element"
    pure (order.filterMap (es[·]?), ({ mask := SetTable.sizeAbove wanted - 1, place, dummies := #[], finger := t.finger, led := t.led, moves := t.movedTo (SetTable.sizeAbove wanted - 1), plain := t.plain } : SetTable))) _ _ _
  refine wp_if_neg (by rw [sz]; simp) ?_
  try refine wpAny_bind (wpAny_pure ?_)
  refine wpAny_pure ?_
  dsimp only
  have hb' : (order.filterMap (es[·]?)).size < scanBound := by rw [sz]; exact hb
  refine wpAny_storeSet_of ho hd ?_ (fits_of_scanBound hb')
  have k1 := store_at (es' := order.filterMap (es[·]?)) (t' := ({ mask := SetTable.sizeAbove wanted - 1, place, dummies := #[], finger := t.finger, led := t.led, moves := t.movedTo (SetTable.sizeAbove wanted - 1), plain := t.plain } : SetTable)) ho hd
  refine hQ _ (Heap.SameBut.update s.heap a _) ⟨_, _, _, _, k1, hex, rfl, fun e he => g e (pm.mem_iff.mp he), (pm.map txtOf).nodup_iff.mpr nd, fun k => (hm k).trans (pm.map txtOf).mem_iff.symm, hb', ?_, by rw [sz]; exact hn, hri', hl, fun _ => ⟨k, hk', by show wanted ≤ SetTable.sizeAbove wanted - 1; omega⟩⟩
  unfold SetTable.fits SetTable.fill
  simp only [Bool.and_eq_true, beq_iff_eq, decide_eq_true_eq]
  refine ⟨by rw [hz, sz], ?_⟩
  simp only [Array.size_empty]
  omega
theorem roomX {more : Nat} {Q : Unit → Shared → Prop} (R : SetXP w s.heap a S n 0) (h2 : n + more ≤ 32768)
    (hQ : ∀ h', Heap.SameBut a s.heap h' → SetXP w h' a S n more → Q () { s with heap := h' }) : wpAny (model P w) A (setRoomFor a more) Q E s := by
  have R' := R
  obtain ⟨ob, es, ep, t, ho, hex, hd, g, nd, hm, hb, hf, hn, hri, hl, hp⟩ := R
  unfold setRoomFor
  refine wpAny_bind (wpAny_setState_of ho hd hf ?_)
  dsimp only
  have hps : t.place.size = n := by
    unfold SetTable.fits at hf
    simp only [Bool.and_eq_true, beq_iff_eq] at hf
    omega
  unfold SetTable.roomFor
  by_cases c : (t.fill + more) * 5 ≥ t.mask * 3
  · rw [if_pos c]
    dsimp only
    rw [hps]
    refine relayX R' (by omega) (by omega) (fun h' sb r => hQ h' sb ?_)
    obtain ⟨ob, es, ep, t, ho, hex, hd, g, nd, hm, hb, hf, hn, hri, hl, hp⟩ := r
    exact ⟨ob, es, ep, t, ho, hex, hd, g, nd, hm, hb, hf, hn, hri, hl, fun z => let ⟨k, e1, e2⟩ := hp z; ⟨k, e1, by omega⟩⟩
  · rw [if_neg c]
    exact wpAny_pure (hQ _ (Heap.SameBut.refl _ _) ⟨ob, es, ep, t, ho, hex, hd, g, nd, hm, hb, hf, hn, hri, hl, fun z => let ⟨k, e1, _⟩ := hp z; ⟨k, e1, by omega⟩⟩)
theorem mergeX {r o : Addr} {S1 S2 : Str → Bool} {n1 n2 : Nat} {each : Sem Unit} {Q : Unit → Shared → Prop} (R : SetXP w s.heap r S1 n1 0) (Ro : SetX w s.heap o S2 n2) (hne : r ≠ o) (hbd : n1 + n2 + 1 < scanBound)
    (hE : ∀ (s1 : Shared) (Q' : Unit → Shared → Prop), s1.heap.get? o = s.heap.get? o → Q' () s1 → wpAny (model P w) A each Q' E s1)
    (hQ : ∀ h' n', Heap.SameBut r s.heap h' → SetXP w h' r (fun j => S1 j || S2 j) n' 0 → n' ≤ n1 + n2 → Q () { s with heap := h' }) : wpAny (model P w) A (setMerge r o each) Q E s := by
  have Ro' := Ro
  obtain ⟨ob, es, ep, t, ho, hex, hd, g, nd, hm, hb, hf, hn, hri, hl⟩ := Ro
  unfold setMerge
  refine wp_if_neg (by simpa using hne) ?_
  try refine wpAny_bind (wpAny_pure ?_)
  refine wpAny_bind (wpAny_setState_of ho hd hf ?_)
  dsimp only
  by_cases hem : es.isEmpty = true
  · refine wp_if_pos hem ?_
    obtain ⟨ob1, es1, ep1, t1, ho1, hex1, hd1, g1, nd1, hm1, hb1, hf1, hn1, hri1, hl1, hp1⟩ := R
    refine wpAny_pure (hQ _ n1 (Heap.SameBut.refl _ _) ⟨ob1, es1, ep1, t1, ho1, hex1, hd1, g1, nd1, fun k => ?_, hb1, hf1, hn1, hri1, hl1, hp1⟩ (by omega))
    have : S2 k = false := by
      cases q : S2 k with
      | false => rfl
      | true =>
        have := (hm k).1 q
        rw [Array.isEmpty_iff] at hem
        rw [hem] at this
        simp at this
    show (S1 k || S2 k) = true ↔ _
    rw [this, Bool.or_false]; exact hm1 k
  · refine wp_if_neg hem ?_
    try refine wpAny_bind (wpAny_pure ?_)
    have n20 : n2 ≠ 0 := by
      intro z
      apply hem
      rw [Array.isEmpty_iff_size_eq_zero]; omega
    have sb4 : scanBound = 4096 := rfl
    refine wpAny_bind (roomX R (by rw [hn]; omega) (fun h1 sb1 r1 => ?_))
    have r1' := r1
    obtain ⟨ob1, es1, ep1, t1, ho1, hex1, hd1, g1, nd1, hm1, hb1, hf1, hn1, hri1, hl1, hp1⟩ := r1
    have oh1 : h1.get? o = some ob := by rw [sb1.2 o (Ne.symm hne)]; exact ho
    refine wpAny_bind (wpAny_setState_of ho1 hd1 hf1 ?_)
    dsimp only
    have f0 : t1.fill = 0 → n1 = 0 := by
      intro z
      unfold SetTable.fits at hf1
      unfold SetTable.fill at z
      simp only [Bool.and_eq_true, beq_iff_eq] at hf1
      omega
    have s1f : n1 = 0 → ∀ k, S1 k = false := by
      intro z k
      cases q : S1 k with
      | false => rfl
      | true =>
        have := (hm1 k).1 q
        have e0 : es1 = #[] := Array.eq_empty_of_size_eq_zero (by omega)
        rw [e0] at this
        simp at this
    have led : w.params.followText "set-order" = true ∨ (t1.led && t.led) = true := by
      rcases hl with z | z
      · exact .inl z
      · rcases hl1 with z2 | z2
        · exact .inl z2
        · exact .inr (by rw [z, z2]; rfl)
    unfold SetTable.road
    by_cases c1 : (t1.fill != 0) = true
    · rw [if_pos c1]
      dsimp only
      have Ro1 : SetX w h1 o S2 n2 := Ro'.keep fun ob hob => by rw [sb1.2 o (Ne.symm hne)]; exact hob
      refine wpAny_bind (walkX (s := { s with heap := h1 }) Ro1 r1' hne (fun a ha => ?_) (fun arr h2 sb2 r2 ga nda hma sza => ?_))
      · rw [List.mem_singleton.mp ha]; exact ⟨_, _, r1'.x⟩
      · refine wpAny_bind (wpAny_forIn_array' _ (fun rest b s' => ∃ h' n' Sc, s' = { s with heap := h' } ∧ Heap.SameBut r s.heap h' ∧ SetX w h' r Sc n' ∧ (∀ k, (Sc k || decide (k ∈ rest.map txtOf)) = (S1 k || S2 k)) ∧ n' + rest.length ≤ n1 + n2 ∧ ∀ e ∈ rest, TxtE w e) _ ?_ ?_ _ _ ?_)
        · rintro ⟨hx, x⟩ rest b s' ⟨h', n', Sc, rfl, sbh, rS, hS, hle, hg⟩
          obtain ⟨k, tk, e1, e2⟩ := hg _ List.mem_cons_self
          dsimp only at e1 e2
          subst e1; subst e2
          dsimp only
          refine wpAny_bind (wpAny_holding (addX (s := { s with heap := h' }) rS (by simp only [List.length_cons] at hle; omega) (fun h3 sb3 r3 => ?_)))
          have oh3 : h3.get? o = s.heap.get? o := by rw [sb3.2 o (Ne.symm hne), sbh.2 o (Ne.symm hne)]
          refine wpAny_bind (hE _ _ oh3 ?_)
          refine wpAny_bind (wpAny_setState_of (o := ob) (by rw [oh3]; exact ho) hd hf ?_)
          dsimp only
          refine wp_if_neg (by simp) ?_
          try refine wpAny_bind (wpAny_pure ?_)
          refine wpAny_pure ⟨h3, _, _, rfl, sbh.trans sb3, r3, fun j => ?_, ?_, fun e he => hg e (List.mem_cons_of_mem _ he)⟩
          · rw [← hS j, List.map_cons]
            have : txtOf (hashStr w k, Value.str k tk) = k := rfl
            rw [this]
            simp only [List.mem_cons, Bool.or_assoc]
            congr 1
            by_cases cj : j = k <;> simp [cj]
          · simp only [List.length_cons] at hle
            split <;> omega
        · rintro b s' ⟨h', n', Sc, rfl, sbh, rS, hS, hle, _⟩
          have rS' : SetX w h' r (fun j => S1 j || S2 j) n' := rS.same (fun k => by rw [← hS k]; simp) rfl
          have nz : n' ≠ 0 := by
            intro z
            obtain ⟨ob4, es4, ep4, t4, ho4, hex4, hd4, g4, nd4, hm4, hb4, hf4, hn4, _⟩ := rS'
            have e0 : es4 = #[] := Array.eq_empty_of_size_eq_zero (by omega)
            have hpos : 0 < es.size := Nat.pos_of_ne_zero (by rw [hn]; exact n20)
            have hin : txtOf es[0] ∈ es.toList.map txtOf := List.mem_map.mpr ⟨_, by simp, rfl⟩
            have := (hm4 (txtOf es[0])).1 (by show (S1 _ || S2 _) = true; rw [(hm _).2 hin, Bool.or_true])
            rw [e0] at this
            simp at this
          exact wpAny_pure (hQ h' n' sbh (rS'.p nz) (by simpa using hle))
        · refine ⟨h2, n1, S1, rfl, sb1.trans sb2, r2.x, fun k => ?_, ?_, ga⟩
          · congr 1
            cases q : S2 k with
            | true => exact decide_eq_true ((hma k).1 q)
            | false => exact decide_eq_false fun z => by have := (hma k).2 z; rw [q] at this; cases this
          · rw [Array.length_toList, sza]; exact Nat.le_refl _
    · have c1' : t1.fill = 0 := by simpa using c1
      rw [if_neg c1]
      split
      · rename_i heq
        split at heq
        · refine wpAny_storeSet_of ho1 hd1 ?_ (fits_of_scanBound hb)
          have k1 := store_at (es' := es) (t' := { t with finger := t1.finger, led := t1.led && t.led, moves := t1.moves, plain := t1.plain && t.plain }) ho1 hd1
          refine hQ _ n2 (sb1.trans (Heap.SameBut.update _ r _)) (SetX.p ⟨_, es, _, _, k1, hex1, rfl, g, nd, fun k => ?_, hb, hf, hn, hri, led⟩ n20) (by omega)
          show (S1 k || S2 k) = true ↔ _
          rw [s1f (f0 c1') k, Bool.false_or]; exact hm k
        · cases heq
      · obtain ⟨k, e1, e2⟩ := hp1 c1'
        obtain ⟨place, order, hq, hz, hri', hpm⟩ := laid_ok e1 t1.finger t1.moves (t1.led && t.led) (t1.plain && t.plain) (es.map (·.1)) (by rw [Array.size_map]; exact e2)
        rw [hq]
        rw [Array.size_map] at hz hpm
        have pm := order_perm es order hpm
        have sz : (order.filterMap (es[·]?)).size = es.size := by
          have := pm.length_eq
          rw [Array.length_toList, Array.length_toList] at this
          exact this
        refine wpAny_bind (?_ : wpAny _ _ _ _ _ _)
        show wpAny _ _ (do
          if (order.filterMap (es[·]?)).size != es.size then unsupported "internal:set-table-lost-an-element"
          pure (order.filterMap (es[·]?), ({ mask := t1.mask, place, dummies := #[], finger := t1.finger, led := t1.led && t.led, moves := t1.moves, plain := t1.plain && t.plain } : SetTable))) _ _ _
        refine wp_if_neg (by rw [sz]; simp) ?_
        try refine wpAny_bind (wpAny_pure ?_)
        refine wpAny_pure ?_
        have hb' : (order.filterMap (es[·]?)).size < scanBound := by rw [sz]; exact hb
        refine wpAny_storeSet_of ho1 hd1 ?_ (fits_of_scanBound hb')
        have k1 := store_at (es' := order.filterMap (es[·]?)) (t' := ({ mask := t1.mask, place, dummies := #[], finger := t1.finger, led := t1.led && t.led, moves := t1.moves, plain := t1.plain && t.plain } : SetTable)) ho1 hd1
        refine hQ _ n2 (sb1.trans (Heap.SameBut.update _ r _)) (SetX.p ⟨_, _, _, _, k1, hex1, rfl, fun e he => g e (pm.mem_iff.mp he), (pm.map txtOf).nodup_iff.mpr nd, fun k => ?_, hb', ?_, by rw [sz]; exact hn, hri', led⟩ n20) (by omega)
        · show (S1 k || S2 k) = true ↔ _
          rw [s1f (f0 c1') k, Bool.false_or]
          exact (hm k).trans (pm.map txtOf).mem_iff.symm
        · unfold SetTable.fits SetTable.fill
          simp only [Bool.and_eq_true, beq_iff_eq, decide_eq_true_eq]
          refine ⟨by rw [hz, sz], ?_⟩
          simp only [Array.size_empty]
          omega
      · rename_i heq
        split at heq <;> cases heq
end
end Vf

namespace Vf
open PySem PySem.Spec PyProof.Rows L2
section
variable {P : Program} {w : World} {A : Around} {E : Value → Shared → Prop} {s : Shared} {a b : Addr} {S S1 S2 : Str → Bool} {n n1 n2 : Nat}
theorem entry_set_or : entryFor table "set.__or__" = some Builtin.«frozenset.__or__» := entryFor_alias (id' := "frozenset.__or__") (by kernel_rfl) rfl (by decide +kernel) (by kernel_rfl)
theorem entry_set_and : entryFor table "set.__and__" = some Builtin.«frozenset.__and__» := entryFor_alias (id' := "frozenset.__and__") (by kernel_rfl) rfl (by decide +kernel) (by kernel_rfl)
theorem SetX.type (R : SetX w s.heap a S n) : s.TypeIs (.ref a) "set" := let ⟨ob, _, _, _, ho, hex, _⟩ := R; ⟨ob, ho, hex.1⟩
theorem anyX {Q : Bool → Shared → Prop} (R : SetX w s.heap a S n) (h : Q true s) : wpAny (model P w) A (Builtin.Frozenset.isAnySet (.ref a)) Q E s := by
  unfold Builtin.Frozenset.isAnySet
  refine wpAny_bind (wpAny_isInstance (T := "set") (b := true) R.type sub_set_self ?_)
  exact wpAny_pure h
theorem baseX {Q : Value → Shared → Prop} (R : SetX w s.heap a S n) (h : Q (.type "set") s) : wpAny (model P w) A (Builtin.Frozenset.baseOf a) Q E s := by
  unfold Builtin.Frozenset.baseOf
  refine wpAny_bind (wpAny_isInstance (T := "set") (b := true) R.type sub_set_self ?_)
  exact wpAny_pure h
theorem newSetX {Q : Value → Shared → Prop} (h : SetXP w (s.heap.push { cls := .type "set", dict := none, data := .set #[] 0 (.fresh 0 0 (!w.params.followText "set-order")) }) s.heap.objs.size (fun _ => false) 0 0 →
    Q (.ref s.heap.objs.size) { s with heap := s.heap.push { cls := .type "set", dict := none, data := .set #[] 0 (.fresh 0 0 (!w.params.followText "set-order")) } }) : wpAny (model P w) A (newSet (.type "set")) Q E s := by
  unfold newSet
  refine wpAny_bind (wpAny_byText ?_)
  dsimp only
  simp only [newObj]
  refine wpAny_bind (wpAny_alloc (wpAny_pure (h ⟨_, #[], 0, _, Heap.get?_push_size _ rfl, ⟨rfl, rfl, rfl⟩, rfl, fun e he => by simp at he, by simp, fun k => by simp, by decide, by rfl, rfl, List.Pairwise.nil, ?_, fun _ => ⟨3, rfl, Nat.zero_le _⟩⟩)))
  show _ ∨ (!w.params.followText "set-order") = true
  cases w.params.followText "set-order"
  · exact .inr rfl
  · exact .inl rfl
theorem copyX {Q : Value → Shared → Prop} (R : SetX w s.heap a S n) (hbd : n + 1 < scanBound)
    (hQ : ∀ h' n', (∀ b o, s.heap.get? b = some o → h'.get? b = some o) → SetXP w h' s.heap.objs.size S n' 0 → n' ≤ n → Q (.ref s.heap.objs.size) { s with heap := h' }) :
    wpAny (model P w) A (Builtin.Frozenset.copyOf a) Q E s := by
  unfold Builtin.Frozenset.copyOf
  refine wpAny_bind (baseX R (wpAny_bind (newSetX fun r0 => ?_)))
  have hne : s.heap.objs.size ≠ a := by
    obtain ⟨ob, _, _, _, ho, _⟩ := R
    exact Nat.ne_of_gt (Heap.lt_size ho)
  refine wpAny_bind (wpAny_pure ?_)
  refine wpAny_bind (mergeX (s := { s with heap := _ }) r0 (R.keep fun o ho => Heap.get?_push_of_some _ ho) hne (by omega) (fun s1 Q' _ q => wpAny_pure q) (fun h' n' sb r1 hle => ?_))
  refine wpAny_pure (hQ h' n' (fun b o ho => ?_) ?_ (by omega))
  · rw [sb.2 b (Nat.ne_of_lt (Heap.lt_size ho))]; exact Heap.get?_push_of_some _ ho
  · simpa using r1
end
end Vf

namespace Vf
open PySem PySem.Spec PyProof.Rows L2
section
variable {P : Program} {w : World} {A : Around} {E : Value → Shared → Prop} {s : Shared} {a b : Addr} {S S1 S2 : Str → Bool} {n n1 n2 : Nat}
theorem distS_id : ∀ ks : List Str, (distS ks).length = ks.length → ks.Nodup := by
  refine revInd ?_ ?_
  · intro _; exact List.nodup_nil
  · intro xs x ih h
    rw [distS_snoc] at h
    have le := distS_len xs
    by_cases c : x ∈ distS xs
    · rw [if_pos c, List.length_append] at h
      simp only [List.length_cons, List.length_nil] at h
      omega
    · rw [if_neg c, List.length_append, List.length_append] at h
      have h' : (distS xs).length = xs.length := by omega
      have nx : x ∉ xs := fun z => c ((mem_distS x xs).2 z)
      rw [List.nodup_append]
      refine ⟨ih h', by simp, ?_⟩
      intro a ha b hb e
      rw [List.mem_singleton.mp hb] at e
      exact nx (e ▸ ha)
theorem SetX.uniq {h : Heap} (R1 : SetX w h a S1 n1) (R2 : SetX w h a S2 n2) (k : Str) : S1 k = S2 k := by
  obtain ⟨ob, es, ep, t, ho, hex, hd, g, nd, hm, _⟩ := R1
  obtain ⟨ob2, es2, ep2, t2, ho2, hex2, hd2, g2, nd2, hm2, _⟩ := R2
  rw [ho] at ho2; cases ho2
  rw [hd] at hd2; cases hd2
  rw [Bool.eq_iff_iff, hm k, hm2 k]
theorem orX {Q : Value → Shared → Prop} (R1 : SetX w s.heap a S1 n1) (R2 : SetX w s.heap b S2 n2) (hbd : n1 + n2 + 1 < scanBound)
    (hQ : ∀ h' n', (∀ b o, s.heap.get? b = some o → h'.get? b = some o) → SetX w h' s.heap.objs.size (fun k => S1 k || S2 k) n' → Q (.ref s.heap.objs.size) { s with heap := h' }) :
    wpAny (model P w) A (binaryOp .BitOr (.ref a) (.ref b)) Q E s := by
  refine wpAny_binaryOp_same (op := .BitOr) (T := "set") R1.type R2.type PySem.F.fills_set_or PySem.F.slot_set_or (wpAny_call_entry PySem.F.slot_set_or R1.type entry_set_or ?_ (PySem.F.args_set_or_2 _ _))
  unfold Builtin.«frozenset.__or__»
  show wpAny _ _ (do
    let t1 ← Builtin.Frozenset.isAnySet (.ref a) <&&> Builtin.Frozenset.isAnySet (.ref b)
    if !t1 then rule s!"frozenset.{"__or__"}.declined"; return ← ret .notImplemented
    let v ← (do
      let result ← Builtin.Frozenset.copyOf a
      if Value.ref b != .ref a then holding [result] (Builtin.Frozenset.updateFrom s!"frozenset.{"__or__"}" (← Builtin.Frozenset.addrOf result) (.ref b))
      return result)
    ret v) _ _ _
  refine wpAny_bind (wpAny_bind (anyX R1 ?_))
  refine anyX R2 ?_
  refine wp_if_neg (by simp) ?_
  try refine wpAny_bind (wpAny_pure ?_)
  refine wpAny_bind (wpAny_bind (copyX R1 (by omega) (fun h1 n' kp r1 hle => ?_)))
  by_cases c : (Value.ref b != .ref a) = true
  · refine wp_if_pos c ?_
    have hne : s.heap.objs.size ≠ b := by
      obtain ⟨ob, _, _, _, ho, _⟩ := R2
      exact Nat.ne_of_gt (Heap.lt_size ho)
    have R2' : SetX w h1 b S2 n2 := R2.keep fun o ho => kp b o ho
    refine wpAny_bind (wpAny_pure ?_)
    refine wpAny_bind (wpAny_holding ?_)
    unfold Builtin.Frozenset.updateFrom
    refine wpAny_bind (anyX (s := { s with heap := h1 }) R2' ?_)
    refine wp_if_pos rfl ?_
    refine wpAny_bind (wpAny_pure ?_)
    unfold Builtin.Frozenset.merge
    have R2s := R2'
    obtain ⟨ob, es, ep, t, ho, hex, hd, g, nd, hm, hb, hf, hn, hri, hl⟩ := R2s
    refine wpAny_bind (wpAny_setEpoch_of ho hd hf ?_)
    refine mergeX (s := { s with heap := h1 }) r1 R2' hne (by omega) (fun s1 Q' e q => ?_) (fun h2 n2' sb r2 _ => ?_)
    · unfold Builtin.Frozenset.unchanged
      refine wpAny_bind (wpAny_setEpoch_of (o := ob) (by rw [e]; exact ho) hd hf ?_)
      refine wp_if_neg (by simp) ?_
      exact wpAny_pure q
    · refine wpAny_pure (wpAny_pure ⟨_, rfl, by simp, hQ h2 n2' (fun b o ho => ?_) r2.x⟩)
      rw [sb.2 b (Nat.ne_of_lt (Heap.lt_size ho))]; exact kp b o ho
  · refine wp_if_neg c ?_
    try refine wpAny_bind (wpAny_pure ?_)
    have e : b = a := by simpa using c
    subst e
    exact wpAny_pure (wpAny_pure ⟨_, rfl, by simp, hQ h1 n' kp (r1.x.same (fun k => by rw [R1.uniq R2 k]; simp) rfl)⟩)
theorem capX {id : String} {wk ak r : Addr} {Q : Unit → Shared → Prop} (Rw : SetX w s.heap wk S1 n1) (Ra : SetX w s.heap ak S2 n2) (Rr : SetXP w s.heap r (fun _ => false) 0 0) (h1 : r ≠ wk) (h2 : r ≠ ak) (hbd : n1 + 1 < scanBound)
    (hQ : ∀ h' n', Heap.SameBut r s.heap h' → SetX w h' r (fun k => S1 k && S2 k) n' → Q () { s with heap := h' }) :
    wpAny (model P w) A (do
      let was ← setEpoch wk
      for (h, x) in ← setWalkUnseen wk [ak, r] (some r) do
        holding [x] do
          if (← setFind ak x h).isSome then
            let _ ← setAddHashed r x h
        Builtin.Frozenset.unchanged id wk was) Q E s := by
  have Rw' := Rw
  obtain ⟨ob, es, ep, t, ho, hex, hd, g, nd, hm, hb, hf, hn, hri, hl⟩ := Rw
  refine wpAny_bind (wpAny_setEpoch_of ho hd hf ?_)
  refine wpAny_bind (walkX Rw' Rr h1 (fun c hc => ?_) (fun arr h3 sb3 r3 ga nda hma sza => ?_))
  · rcases List.mem_cons.mp hc with z | z
    · exact z ▸ ⟨_, _, Ra⟩
    · rw [List.mem_singleton.mp z]; exact ⟨_, _, Rr.x⟩
  · refine wpAny_bind (wpAny_forIn_array' _ (fun rest b s' => ∃ h' n' Sc, s' = { s with heap := h' } ∧ Heap.SameBut r s.heap h' ∧ SetX w h' r Sc n' ∧ (∀ k, (Sc k || (decide (k ∈ rest.map txtOf) && S2 k)) = (S1 k && S2 k)) ∧ n' + rest.length ≤ n1 ∧ ∀ e ∈ rest, TxtE w e) _ ?_ ?_ _ _ ?_)
    · rintro ⟨hx, x⟩ rest b s' ⟨h', n', Sc, rfl, sbh, rS, hS, hle, hg⟩
      obtain ⟨k, tk, e1, e2⟩ := hg _ List.mem_cons_self
      dsimp only at e1 e2
      subst e1; subst e2
      dsimp only
      have hk : txtOf (hashStr w k, Value.str k tk) = k := rfl
      have Ra' : SetX w h' ak S2 n2 := Ra.keep fun o q => by rw [sbh.2 ak (Ne.symm h2)]; exact q
      have fin : ∀ (h4 : Heap) (Q2 : ForInStep PUnit → Shared → Prop), Heap.SameBut r s.heap h4 → Q2 (ForInStep.yield PUnit.unit) { s with heap := h4 } → wpAny (model P w) A (do
          Builtin.Frozenset.unchanged id wk ep
          pure (ForInStep.yield PUnit.unit)) Q2 E { s with heap := h4 } := by
        intro h4 Q2 sb4 q
        unfold Builtin.Frozenset.unchanged
        refine wpAny_bind (wpAny_bind (wpAny_setEpoch_of (s := { s with heap := h4 }) (o := ob) (by rw [sb4.2 wk (Ne.symm h1)]; exact ho) hd hf ?_))
        refine wp_if_neg (by simp) ?_
        exact wpAny_pure (wpAny_pure q)
      simp only [List.length_cons] at hle
      refine wpAny_bind (wpAny_holding (wpAny_bind (wpAny_setFind_of (s := { s with heap := h' }) (knd := strKind P w) (k := k) (strKind_is P w k tk) rfl Ra'.gen (fun fo hfo => ?_))))
      by_cases cS : S2 k = true
      · refine wp_if_pos (by rw [hfo]; exact cS) ?_
        refine wpAny_bind (addX (s := { s with heap := h' }) rS (by omega) (fun h4 sb4 r4 => ?_))
        refine wpAny_pure (fin h4 _ (sbh.trans sb4) ⟨h4, _, _, rfl, sbh.trans sb4, r4, fun j => ?_, by split <;> omega, fun e he => hg e (List.mem_cons_of_mem _ he)⟩)
        rw [← hS j, List.map_cons, hk]
        by_cases cj : j = k
        · subst cj; simp [cS]
        · have cb : (j == k) = false := beq_false_of_ne cj
          simp [cj, cb]
      · refine wp_if_neg (by rw [hfo]; exact cS) ?_
        refine wpAny_pure (fin h' _ sbh ⟨h', _, _, rfl, sbh, rS, fun j => ?_, by omega, fun e he => hg e (List.mem_cons_of_mem _ he)⟩)
        rw [← hS j, List.map_cons, hk]
        by_cases cj : j = k
        · subst cj; simp [cS]
        · have cb : (j == k) = false := beq_false_of_ne cj
          simp [cj, cb]
    · rintro b s' ⟨h', n', Sc, rfl, sbh, rS, hS, hle, _⟩
      exact wpAny_pure (hQ h' n' sbh (rS.same (fun k => by rw [← hS k]; simp) rfl))
    · refine ⟨h3, 0, fun _ => false, rfl, sb3, r3.x, fun k => ?_, ?_, ga⟩
      · rw [Bool.false_or]
        congr 1
        cases q : S1 k with
        | true => exact decide_eq_true ((hma k).1 q)
        | false => exact decide_eq_false fun z => by have := (hma k).2 z; rw [q] at this; cases this
      · rw [Array.length_toList, sza]; omega
theorem sizeX {Q : Nat → Shared → Prop} (R : SetX w s.heap a S n) (h : Q n s) : wpAny (model P w) A (Builtin.Frozenset.sizeOf a) Q E s := by
  obtain ⟨ob, es, ep, t, ho, hex, hd, g, nd, hm, hb, hf, hn, hri, hl⟩ := R
  unfold Builtin.Frozenset.sizeOf
  exact wpAny_bind (wpAny_setEntries_of ho hd hf (wpAny_pure (hn ▸ h)))
theorem andX {Q : Value → Shared → Prop} (R1 : SetX w s.heap a S1 n1) (R2 : SetX w s.heap b S2 n2) (hbd : n1 + n2 + 1 < scanBound)
    (hQ : ∀ h' n', (∀ b o, s.heap.get? b = some o → h'.get? b = some o) → SetX w h' s.heap.objs.size (fun k => S1 k && S2 k) n' → Q (.ref s.heap.objs.size) { s with heap := h' }) :
    wpAny (model P w) A (binaryOp .BitAnd (.ref a) (.ref b)) Q E s := by
  refine wpAny_binaryOp_same (op := .BitAnd) (T := "set") R1.type R2.type PySem.F.fills_set_and PySem.F.slot_set_and (wpAny_call_entry PySem.F.slot_set_and R1.type entry_set_and ?_ (PySem.F.args_set_and_2 _ _))
  unfold Builtin.«frozenset.__and__»
  show wpAny _ _ (do
    let t1 ← Builtin.Frozenset.isAnySet (.ref a) <&&> Builtin.Frozenset.isAnySet (.ref b)
    if !t1 then rule s!"frozenset.{"__and__"}.declined"; return ← ret .notImplemented
    let v ← Builtin.Frozenset.intersection s!"frozenset.{"__and__"}" a (.ref b)
    ret v) _ _ _
  refine wpAny_bind (wpAny_bind (anyX R1 ?_))
  refine anyX R2 ?_
  refine wp_if_neg (by simp) ?_
  try refine wpAny_bind (wpAny_pure ?_)
  refine wpAny_bind ?_
  unfold Builtin.Frozenset.intersection
  by_cases c : (Value.ref b == .ref a) = true
  · refine wp_if_pos c ?_
    have e : b = a := by simpa using c
    subst e
    exact copyX R1 (by omega) (fun h1 n' kp r1 hle => wpAny_pure ⟨_, rfl, by simp, hQ h1 n' kp (r1.x.same (fun k => by rw [R1.uniq R2 k]; simp) rfl)⟩)
  · refine wp_if_neg c ?_
    try refine wpAny_bind (wpAny_pure ?_)
    refine wpAny_bind (baseX R1 (wpAny_bind (newSetX fun r0 => ?_)))
    refine wpAny_bind (wpAny_pure ?_)
    refine wpAny_bind (wpAny_holding ?_)
    have hnb : s.heap.objs.size ≠ b := by
      obtain ⟨ob, _, _, _, ho, _⟩ := R2
      exact Nat.ne_of_gt (Heap.lt_size ho)
    have hna : s.heap.objs.size ≠ a := by
      obtain ⟨ob, _, _, _, ho, _⟩ := R1
      exact Nat.ne_of_gt (Heap.lt_size ho)
    have R1' := R1.keep (h' := s.heap.push { cls := .type "set", dict := none, data := .set #[] 0 (.fresh 0 0 (!w.params.followText "set-order")) }) fun o ho => Heap.get?_push_of_some _ ho
    have R2' := R2.keep (h' := s.heap.push { cls := .type "set", dict := none, data := .set #[] 0 (.fresh 0 0 (!w.params.followText "set-order")) }) fun o ho => Heap.get?_push_of_some _ ho
    refine wpAny_bind (anyX (s := { s with heap := _ }) R2' ?_)
    refine wp_if_pos rfl ?_
    refine wpAny_bind (wpAny_pure ?_)
    refine wpAny_bind (sizeX (s := { s with heap := _ }) R2' ?_)
    refine wpAny_bind (sizeX (s := { s with heap := _ }) R1' ?_)
    have fin : ∀ h' n', Heap.SameBut s.heap.objs.size (s.heap.push { cls := .type "set", dict := none, data := .set #[] 0 (.fresh 0 0 (!w.params.followText "set-order")) }) h' → SetX w h' s.heap.objs.size (fun k => S1 k && S2 k) n' → Q (.ref s.heap.objs.size) { s with heap := h' } := by
      intro h' n' sb r
      refine hQ h' n' (fun b o ho => ?_) r
      rw [sb.2 b (Nat.ne_of_lt (Heap.lt_size ho))]; exact Heap.get?_push_of_some _ ho
    by_cases cz : n2 > n1
    · rw [if_pos cz]
      refine capX (s := { s with heap := _ }) R1' R2' r0 hna hnb (by omega) (fun h' n' sb r => ?_)
      exact wpAny_pure (wpAny_pure ⟨_, rfl, by simp, fin h' n' sb r⟩)
    · rw [if_neg cz]
      refine capX (s := { s with heap := _ }) R2' R1' r0 hnb hna (by omega) (fun h' n' sb r => ?_)
      exact wpAny_pure (wpAny_pure ⟨_, rfl, by simp, fin h' n' sb (r.same (fun k => Bool.and_comm _ _) rfl)⟩)
/-- a set of texts has as many as it has unlike ones -/
theorem nodup_len : ∀ (l1 l2 : List Str), l1.Nodup → l2.Nodup → (∀ x, x ∈ l1 ↔ x ∈ l2) → l1.length = l2.length
  | [], l2, _, _, h => by
    cases l2 with
    | nil => rfl
    | cons y l => exact absurd ((h y).2 List.mem_cons_self) (by simp)
  | x :: l1, l2, d1, d2, h => by
    have hx : x ∈ l2 := (h x).1 List.mem_cons_self
    have d1' := List.nodup_cons.mp d1
    have := nodup_len l1 (l2.erase x) d1'.2 (d2.erase x) (fun y => by
      rw [List.Nodup.mem_erase_iff d2]
      constructor
      · intro hy
        exact ⟨fun e => d1'.1 (e ▸ hy), (h y).1 (List.mem_cons_of_mem _ hy)⟩
      · rintro ⟨ne, hy⟩
        rcases List.mem_cons.mp ((h y).2 hy) with z | z
        · exact absurd z ne
        · exact z)
    rw [List.length_cons, this, List.length_erase_of_mem hx]
    have : 0 < l2.length := List.length_pos_of_mem hx
    omega
theorem SetX.count {h : Heap} (R : SetX w h a S n) {ks : List Str} (nd : ks.Nodup) (hk : ∀ k, S k = true ↔ k ∈ ks) : n = ks.length := by
  obtain ⟨ob, es, ep, t, ho, hex, hd, g, nd1, hm, hb, hf, hn, hri, hl⟩ := R
  rw [← hn]
  have := nodup_len _ ks nd1 nd (fun x => (hm x).symm.trans (hk x))
  simpa using this
theorem SetX.nodup {h : Heap} {ks : List Str} (R : SetX w h a (fun j => decide (j ∈ ks)) ks.length) : ks.Nodup := by
  obtain ⟨ob, es, ep, t, ho, hex, hd, g, nd, hm, hb, hf, hn, hri, hl⟩ := R
  have h1 : (distS ks).length = ks.length := by
    have := nodup_len (distS ks) _ (distS_nodup ks) nd (fun x => by rw [mem_distS, ← hm x]; simp)
    rw [this]; simpa using hn
  exact distS_id ks h1
end
end Vf

namespace Vf
open PySem PySem.Spec PyProof.Rows L2
section
variable {X : Cx}
/-- set | set, of texts -/
def wOrX (w : World) : WO2
  | .sx w1 ks, .sx w2 js, h, k => w1 = w ∧ w2 = w ∧ ks.length + js.length + 1 < scanBound ∧ (ks.Nodup → js.Nodup → k (.sx w (distS (ks ++ js))) h)
  | _, _, _, _ => False
def wAndX (w : World) : WO2
  | .sx w1 ks, .sx w2 js, h, k => w1 = w ∧ w2 = w ∧ ks.length + js.length + 1 < scanBound ∧ (ks.Nodup → js.Nodup → k (.sx w (ks.filter fun x => decide (x ∈ js))) h)
  | _, _, _, _ => False
theorem op2_orX : Op2 X (binaryOp .BitOr) (wOrX X.w) := by
  rintro pins s σ H x y v u Q I rx ry ⟨m, h, dx, dy, k, rh, r1, r2, w, f⟩
  cases dx <;> cases dy <;> first | exact False.elim w | skip
  rename_i w1 ks w2 js
  obtain ⟨rfl, e2, hz, q⟩ := w
  subst e2
  unfold RelD at r1 r2
  obtain ⟨a, rfl, na, ha⟩ := r1
  obtain ⟨b, rfl, nb, hb⟩ := r2
  have R1 : SetX X.w s.heap a (fun j => decide (j ∈ ks)) ks.length := (I.hok a _ ha).1
  have R2 : SetX X.w s.heap b (fun j => decide (j ∈ js)) js.length := (I.hok b _ hb).1
  cases rx; cases ry
  refine orX R1 R2 hz (fun h' n' kp R => ?_)
  have hf : H s.heap.objs.size = none := I.hok.fresh (Nat.le_refl _)
  have hn : n' = (distS (ks ++ js)).length := R.count (distS_nodup _) (fun k => by rw [mem_distS]; simp)
  have R' : SetX X.w h' s.heap.objs.size (fun j => decide (j ∈ distS (ks ++ js))) (distS (ks ++ js)).length := R.same (fun k => by simp [mem_distS]) hn
  refine ⟨.ref s.heap.objs.size, L2.upd H s.heap.objs.size (SetXO X.w s.heap.objs.size (distS (ks ++ js))), I.laid (t' := s.toks) kp (Nat.le_refl _) (setXO_ok R'), rfl, f.new rh hf ?_ (q R1.nodup R2.nodup)⟩
  unfold RelD
  exact ⟨_, rfl, rh.notin hf, upd_same⟩
theorem op2_andX : Op2 X (binaryOp .BitAnd) (wAndX X.w) := by
  rintro pins s σ H x y v u Q I rx ry ⟨m, h, dx, dy, k, rh, r1, r2, w, f⟩
  cases dx <;> cases dy <;> first | exact False.elim w | skip
  rename_i w1 ks w2 js
  obtain ⟨rfl, e2, hz, q⟩ := w
  subst e2
  unfold RelD at r1 r2
  obtain ⟨a, rfl, na, ha⟩ := r1
  obtain ⟨b, rfl, nb, hb⟩ := r2
  have R1 : SetX X.w s.heap a (fun j => decide (j ∈ ks)) ks.length := (I.hok a _ ha).1
  have R2 : SetX X.w s.heap b (fun j => decide (j ∈ js)) js.length := (I.hok b _ hb).1
  cases rx; cases ry
  refine andX R1 R2 hz (fun h' n' kp R => ?_)
  have hf : H s.heap.objs.size = none := I.hok.fresh (Nat.le_refl _)
  have hn : n' = (ks.filter fun x => decide (x ∈ js)).length := R.count (List.Pairwise.filter _ R1.nodup) (fun k => by simp [List.mem_filter])
  have R' : SetX X.w h' s.heap.objs.size (fun j => decide (j ∈ ks.filter fun x => decide (x ∈ js))) (ks.filter fun x => decide (x ∈ js)).length := R.same (fun k => by simp [List.mem_filter]) hn
  refine ⟨.ref s.heap.objs.size, L2.upd H s.heap.objs.size (SetXO X.w s.heap.objs.size (ks.filter fun x => decide (x ∈ js))), I.laid (t' := s.toks) kp (Nat.le_refl _) (setXO_ok R'), rfl, f.new rh hf ?_ (q R1.nodup R2.nodup)⟩
  unfold RelD
  exact ⟨_, rfl, rh.notin hf, upd_same⟩
end
end Vf

namespace Vf
open PySem PySem.Spec PyProof.Rows L2
theorem lc_map {i : Nat} {e : W1} {ok : DH → Prop} {ρ : Rho} {fin : List D → DH → Prop} (J : DH → Prop) (R : D → D → Prop) (hok : ∀ h, J h → ok h) : ∀ {its acc : List D} {h : DH},
    (∀ x ∈ its, ∀ h, J h → ∀ k : K1, (∀ y h', J h' → R x y → k y h') → e (ρ.set i (some x)) h k) → J h → acc.length + its.length ≤ sizeLine →
    (∀ out h', J h' → (∀ (j : Nat) (x y : D), its[j]? = some x → out[j]? = some y → R x y) → out.length = its.length → fin (acc ++ out) h') → lcGo (.n i) wYes e ok ρ fin its acc h
  | [], acc, h, _, j, _, hf => ⟨hok h j, by simpa using hf [] h j (by simp) (by simp)⟩
  | x :: its, acc, h, he, j, hz, hf => by
    refine ⟨hok h j, _, rfl, ?_⟩
    show e (ρ.set i (some x)) h (fun y h2 => acc.length < sizeLine ∧ lcGo (.n i) wYes e ok ρ fin its (acc ++ [y]) h2)
    refine he x List.mem_cons_self h j _ fun y h2 j2 r => ⟨by simp at hz; omega, lc_map J R hok (fun z hz => he z (List.mem_cons_of_mem _ hz)) j2 (by simp at hz ⊢; omega) fun out h' j' hR hl => ?_⟩
    have := hf (y :: out) h' j' (fun q a b ha hb => by
      cases q with
      | zero =>
        simp only [List.getElem?_cons_zero, Option.some.injEq] at ha hb
        subst ha; subst hb; exact r
      | succ q =>
        simp only [List.getElem?_cons_succ] at ha hb
        exact hR q a b ha hb) (by simp; omega)
    simpa using this
/-! ### texts in ascending order -/
def Asc (xs : List Str) : Prop := xs.Pairwise fun a b => a.cps.toList < b.cps.toList
theorem str_ext {a b : Str} (h : a.cps.toList = b.cps.toList) : a = b := by
  cases a; cases b
  simp only at h
  rw [Array.toList_inj.mp h]
theorem lt_of_not {a b : Str} (h : ¬ b.cps.toList < a.cps.toList) (ne : a ≠ b) : a.cps.toList < b.cps.toList := by
  rcases Decidable.em (a.cps.toList < b.cps.toList) with z | z
  · exact z
  · exact absurd (str_ext (List.le_antisymm (List.not_lt.mp h) (List.not_lt.mp z))) ne
theorem asc_of : ∀ (xs : List Str), sortedS xs = true → xs.Nodup → Asc xs
  | [], _, _ => .nil
  | [x], _, _ => by unfold Asc; simp
  | x :: y :: l, h, nd => by
    have nd' := List.nodup_cons.mp nd
    have h2 : (!ltCps y.cps.toList x.cps.toList && risingS y l) = true := h
    rw [Bool.and_eq_true, ltCps_eq, Bool.not_eq_true', decide_eq_false_iff_not] at h2
    have xy : x.cps.toList < y.cps.toList := lt_of_not h2.1 fun e => nd'.1 (e ▸ List.mem_cons_self)
    have ih := asc_of (y :: l) h2.2 nd'.2
    refine List.pairwise_cons.mpr ⟨fun z hz => ?_, ih⟩
    rcases List.mem_cons.mp hz with e | hz
    · exact e ▸ xy
    · exact List.lt_trans xy ((List.pairwise_cons.mp ih).1 z hz)
theorem Asc.nodup {xs : List Str} (h : Asc xs) : xs.Nodup := h.imp fun {a b} l e => by
  rw [e] at l
  exact List.lt_irrefl _ l
theorem asc_ext : ∀ {xs ys : List Str}, Asc xs → Asc ys → (∀ x, x ∈ xs ↔ x ∈ ys) → xs = ys
  | [], [], _, _, _ => rfl
  | [], y :: ys, _, _, h => absurd ((h y).2 List.mem_cons_self) (by simp)
  | x :: xs, [], _, _, h => absurd ((h x).1 List.mem_cons_self) (by simp)
  | x :: xs, y :: ys, hx, hy, h => by
    have px := List.pairwise_cons.mp hx
    have py := List.pairwise_cons.mp hy
    have e : x = y := by
      rcases List.mem_cons.mp ((h x).1 List.mem_cons_self) with z | z
      · exact z
      · rcases List.mem_cons.mp ((h y).2 List.mem_cons_self) with u | u
        · exact u.symm
        · exact absurd (List.lt_trans (px.1 y u) (py.1 x z)) (List.lt_irrefl _)
    subst e
    have nx := List.nodup_cons.mp hx.nodup
    have ny := List.nodup_cons.mp hy.nodup
    rw [asc_ext px.2 py.2 fun z => ⟨fun hz => ?_, fun hz => ?_⟩]
    · rcases List.mem_cons.mp ((h z).1 (List.mem_cons_of_mem _ hz)) with u | u
      · exact absurd (u ▸ hz) nx.1
      · exact u
    · rcases List.mem_cons.mp ((h z).2 (List.mem_cons_of_mem _ hz)) with u | u
      · exact absurd (u ▸ hz) ny.1
      · exact u
theorem Asc.sub {xs ys : List Str} (h : Asc xs) (s : ys.Sublist xs) : Asc ys := List.Pairwise.sublist s h
/-! ### names are unlike -/
def codes (x : Str) : Nat := x.cps.toList.sum
theorem codes_app (x : Str) (c : Nat) : codes (x ++ ⟨#[c]⟩) = codes x + c ∧ codes (⟨#[c]⟩ ++ x) = codes x + c := by
  unfold codes
  rw [app_codes, app_codes]
  simp [List.sum_append]
  omega
theorem nodup_of_codes {zs : List Str} {f : Nat → Nat} (h : ∀ (j : Nat) (z : Str), zs[j]? = some z → codes z = f j) (inj : ∀ i j, i < zs.length → j < zs.length → f i = f j → i = j) : zs.Nodup := by
  unfold List.Nodup
  rw [List.pairwise_iff_getElem]
  intro i j hi hj hij e
  have e1 := h i zs[i] (List.getElem?_eq_getElem hi)
  have e2 := h j zs[j] (List.getElem?_eq_getElem hj)
  rw [e] at e1
  have := inj i j hi hj (e1.symm.trans e2)
  omega
theorem leap_inj {first leap : Int} (hl : leap = 1 ∨ leap = 3 ∨ leap = 5 ∨ leap = 7 ∨ leap = 9 ∨ leap = 11) {i j : Nat} (hi : i < 26) (hj : j < 26) (h : (first + leap * (0 + (i : Int))) % 26 = (first + leap * (0 + (j : Int))) % 26) : i = j := by
  rcases hl with rfl | rfl | rfl | rfl | rfl | rfl <;> omega
theorem dEq_refl {x : D} (h : isDat x) : dEq x x = true := SeqAt.eqv_refl _ (SeqAt.canLay_of_shaped h.2)
/-! ### data that can be shown and compared: depth and weight -/
structure Sm (dp wt : Nat) (d : D) : Prop where
  nr : noRef d = true
  lay : (toPy d).canLay0 = true
  dep : (toPy d).depth ≤ dp
  wgt : (toPy d).weight ≤ wt
  shrt : (toPy d).intsShort 13 = true
  shw : (toPy d).showable = true
structure Sms (dp wt : Nat) (ds : List D) : Prop where
  nr : noRefs ds = true
  lay : PyData.canLayAll0 (toPys ds) = true
  dep : PyData.depthAll (toPys ds) ≤ dp
  wgt : PyData.weightAll (toPys ds) ≤ wt
  shrt : PyData.intsShortAll 13 (toPys ds) = true
  shw : PyData.showableAll (toPys ds) = true
theorem Sms.nil (dp wt : Nat) : Sms dp wt [] := ⟨rfl, rfl, Nat.zero_le _, Nat.zero_le _, rfl, rfl⟩
theorem Sms.cons {dp w1 w2 : Nat} {d : D} {ds : List D} (h : Sm dp w1 d) (t : Sms dp w2 ds) : Sms dp (w1 + 1 + w2) (d :: ds) := by
  refine ⟨?_, ?_, ?_, ?_, ?_, ?_⟩
  · unfold noRefs; rw [h.nr, t.nr]; rfl
  · unfold toPys PyData.canLayAll0; rw [h.lay, t.lay]; rfl
  · unfold toPys PyData.depthAll; exact Nat.max_le.mpr ⟨h.dep, t.dep⟩
  · unfold toPys PyData.weightAll; have := h.wgt; have := t.wgt; omega
  · unfold toPys PyData.intsShortAll; rw [h.shrt, t.shrt]; rfl
  · unfold toPys PyData.showableAll; rw [h.shw, t.shw]; rfl
theorem Sms.tup {dp wt : Nat} {ds : List D} (h : Sms dp wt ds) : Sm (dp + 1) wt (.tup ds) := by
  refine ⟨?_, ?_, ?_, ?_, ?_, ?_⟩
  · unfold noRef; exact h.nr
  · unfold toPy PyData.canLay0; exact h.lay
  · unfold toPy PyData.depth; exact Nat.succ_le_succ h.dep
  · unfold toPy PyData.weight; exact h.wgt
  · unfold toPy PyData.intsShort; exact h.shrt
  · unfold toPy PyData.showable; exact h.shw
theorem Sms.lst {dp wt : Nat} {ds : List D} (h : Sms dp wt ds) : Sm (dp + 1) wt (.lst ds) := by
  refine ⟨?_, ?_, ?_, ?_, ?_, ?_⟩
  · unfold noRef; exact h.nr
  · unfold toPy PyData.canLay0; exact h.lay
  · unfold toPy PyData.depth; exact Nat.succ_le_succ h.dep
  · unfold toPy PyData.weight; exact h.wgt
  · unfold toPy PyData.intsShort; exact h.shrt
  · unfold toPy PyData.showable; exact h.shw
theorem Sm.mono {a b c d : Nat} {x : D} (h : Sm a b x) (h1 : a ≤ c) (h2 : b ≤ d) : Sm c d x := ⟨h.nr, h.lay, Nat.le_trans h.dep h1, Nat.le_trans h.wgt h2, h.shrt, h.shw⟩
theorem Sms.mono {a b c d : Nat} {x : List D} (h : Sms a b x) (h1 : a ≤ c) (h2 : b ≤ d) : Sms c d x := ⟨h.nr, h.lay, Nat.le_trans h.dep h1, Nat.le_trans h.wgt h2, h.shrt, h.shw⟩
theorem Sms.of {dp wt : Nat} : ∀ {ds : List D}, (∀ d ∈ ds, Sm dp wt d) → Sms dp ((wt + 1) * ds.length) ds
  | [], _ => .nil _ _
  | d :: ds, h => (Sms.cons (h d List.mem_cons_self) (Sms.of fun x hx => h x (List.mem_cons_of_mem _ hx))).mono (Nat.le_refl _) (by rw [List.length_cons, Nat.mul_add]; omega)
theorem Sm.str {x : Str} (h : PyData.strOk x = true) : Sm 0 x.cps.size (.str x) := by
  refine ⟨rfl, ?_, ?_, ?_, rfl, rfl⟩
  · unfold toPy PyData.canLay0; exact h
  · unfold toPy PyData.depth; exact Nat.le_refl _
  · unfold toPy PyData.weight; exact Nat.le_refl _
theorem Sm.strs {xs : List Str} (h : okN xs) : Sm 1 10100 (.tup (xs.map .str)) := by
  refine (Sms.tup (Sms.of (dp := 0) (wt := 100) fun d hd => ?_)).mono (Nat.le_refl _) ?_
  · obtain ⟨x, hx, rfl⟩ := List.mem_map.mp hd
    exact (Sm.str (h.2 x hx).1).mono (Nat.le_refl _) (h.2 x hx).2
  · rw [List.length_map]; have := h.1; omega
theorem Sm.two {a b c d : Nat} {x y : D} (h : Sm a b x) (h2 : Sm c d y) : Sm (max a c + 1) (b + d + 2) (.tup [x, y]) :=
  (Sms.tup (Sms.cons (h.mono (Nat.le_max_left a c) (Nat.le_refl _)) (Sms.cons (h2.mono (Nat.le_max_right a c) (Nat.le_refl _)) (Sms.nil _ 0)))).mono (Nat.le_refl _) (by omega)
theorem Sm.dat {a b : Nat} {x : D} (h : Sm a b x) (ha : a ≤ 64 := by decide) : isDat x := by
  refine ⟨h.nr, ?_⟩
  unfold SeqAt.shaped
  rw [h.lay, decide_eq_true (Nat.le_trans h.dep ha)]; rfl
theorem Sm.shows {a b : Nat} {x : D} (h : Sm a b x) (ha : a ≤ 64 := by decide) (hb : b ≤ 1048576 := by decide) : Vf.shows x := by
  refine ⟨h.nr, ?_, h.shrt, h.shw⟩
  unfold PyData.layable0
  rw [h.lay, decide_eq_true (Nat.le_trans h.dep ha), decide_eq_true (Nat.le_trans h.wgt hb)]; rfl
/-- two arguments by name, the second one first -/
def gSwap {α : Type} (_ ws : List α) : List α := match ws with
  | [a, b] => [b, a]
  | _ => []
theorem lc_pureT {T : Tg} {e : W1} {g : D → D} {ok : DH → Prop} {ρ : Rho} {fin : List D → DH → Prop} {h : DH} (hok : ok h) : ∀ {its acc : List D}, (∀ x ∈ its, ∃ ρ1, tgD T x ρ = some ρ1 ∧ ∀ k : K1, k (g x) h → e ρ1 h k) →
    acc.length + its.length ≤ sizeLine → fin (acc ++ its.map g) h → lcGo T wYes e ok ρ fin its acc h
  | [], acc, _, _, hf => ⟨hok, by simpa using hf⟩
  | x :: its, acc, he, hz, hf => by
    obtain ⟨ρ1, e1, h1⟩ := he x List.mem_cons_self
    refine ⟨hok, ρ1, e1, ?_⟩
    show e ρ1 h (fun y h2 => acc.length < sizeLine ∧ lcGo T wYes e ok ρ fin its (acc ++ [y]) h2)
    refine h1 _ ⟨by simp at hz; omega, lc_pureT hok (fun y hy => he y (List.mem_cons_of_mem _ hy)) (by simp at hz ⊢; omega) (by simpa using hf)⟩
theorem zip_tail {R : Str → Str → Prop} : ∀ xs : List Str, xs.Pairwise R → ∀ p ∈ xs.zip (xs.drop 1), R p.1 p.2
  | [], _, p, h => by simp at h
  | [x], _, p, h => by simp at h
  | x :: y :: l, hp, p, h => by
    have hp' := List.pairwise_cons.mp hp
    simp only [List.drop_succ_cons, List.drop_zero, List.zip_cons_cons, List.mem_cons] at h
    rcases h with e | h
    · rw [e]; exact hp'.1 y List.mem_cons_self
    · exact zip_tail (y :: l) hp'.2 p (by simpa using h)
theorem cut_one (xs : List D) : cutD xs (some 1) none = xs.drop 1 := by
  unfold cutD
  cases xs with
  | nil => simp
  | cons x l => simp [HT.sIx]
theorem cut_to (xs : List D) (n : Nat) : cutD xs none (some (n : Int)) = xs.take n := by
  unfold cutD
  rw [HT.sIx_nat]
  simp [HT.sIx, List.take_eq_take_iff]
theorem cut_from (xs : List D) (n : Nat) : cutD xs (some (n : Int)) none = xs.drop n := by
  unfold cutD
  rw [HT.sIx_nat]
  simp only [HT.sIx]
  by_cases c : n ≤ xs.length
  · rw [Nat.min_eq_left c]
    exact List.take_of_length_le (by simp)
  · rw [Nat.min_eq_right (by omega), List.drop_of_length_le (by omega : xs.length ≤ n), List.drop_of_length_le (Nat.le_refl _)]; simp
theorem rep_all {α : Type} (l : List α) : (l.map fun _ => D.bl true) = (l.map fun _ => true).map .bl ∧ ((l.map fun _ => true).all id) = true := by
  constructor <;> simp
theorem lc_filter {i : Nat} {t : WB} {e : W1} {p : D → Bool} {ok : DH → Prop} {ρ : Rho} {fin : List D → DH → Prop} {h : DH} (hok : ok h) : ∀ {its acc : List D},
    (∀ x ∈ its, ∀ k : KB, k (p x) h → t (ρ.set i (some x)) h k) → (∀ x ∈ its, ∀ k : K1, k x h → e (ρ.set i (some x)) h k) →
    acc.length + its.length ≤ sizeLine → fin (acc ++ its.filter p) h → lcGo (.n i) t e ok ρ fin its acc h
  | [], acc, _, _, _, hf => ⟨hok, by simpa using hf⟩
  | x :: its, acc, ht, he, hz, hf => by
    refine ⟨hok, _, rfl, ht x List.mem_cons_self _ ?_⟩
    cases c : p x with
    | true =>
      rw [if_pos rfl]
      refine he x List.mem_cons_self _ ⟨by simp at hz; omega, lc_filter hok (fun y hy => ht y (List.mem_cons_of_mem _ hy)) (fun y hy => he y (List.mem_cons_of_mem _ hy)) (by simp at hz ⊢; omega) ?_⟩
      rw [List.filter_cons_of_pos c] at hf
      simpa using hf
    | false =>
      rw [if_neg (by decide)]
      refine lc_filter hok (fun y hy => ht y (List.mem_cons_of_mem _ hy)) (fun y hy => he y (List.mem_cons_of_mem _ hy)) (by simp at hz; omega) ?_
      rw [List.filter_cons_of_neg (by rw [c]; decide)] at hf
      exact hf
def isIn (ys : List Str) : D → Bool
  | .str x => decide (x ∈ ys)
  | _ => false
theorem filter_strs (xs ys : List Str) : (xs.map D.str).filter (isIn ys) = (xs.filter fun x => decide (x ∈ ys)).map D.str := by
  induction xs with
  | nil => rfl
  | cons x l ih =>
    rw [List.map_cons, List.filter_cons, List.filter_cons, ih]
    show (if decide (x ∈ ys) = true then _ else _) = _
    by_cases c : decide (x ∈ ys) = true
    · rw [if_pos c, if_pos c]; rfl
    · rw [if_neg c, if_neg c]
theorem for_each {T : Tg} {b : WS} {ok : DH → Prop} {e : DEn} (J : Rho → DH → Prop) (hok : ∀ ρ h, J ρ h → ok h) (hd : ∀ ρ h, J ρ h → e.nx ρ h) : ∀ {its : List D} {ρ : Rho} {h : DH},
    (∀ x ∈ its, ∀ ρ h, J ρ h → ∀ e' : DEn, (∀ ρ h, J ρ h → e'.nx ρ h) → e'.rt = e.rt → ∃ ρ1, tgD T x ρ = some ρ1 ∧ b e' ρ1 h) → J ρ h → forGo T b ok e its ρ h
  | [], ρ, h, _, j => ⟨hok ρ h j, hd ρ h j⟩
  | x :: its, ρ, h, ht, j => by
    refine ⟨hok ρ h j, ht x List.mem_cons_self ρ h j _ ?_ rfl⟩
    intro ρ' h' j'
    exact for_each J hok hd (fun y hy => ht y (List.mem_cons_of_mem _ hy)) j'
theorem mm3 (t : Int) (h : 0 ≤ t) : -(2 ^ 62) ≤ (if (if t < 3 then t else 3) > 1 then (if t < 3 then t else 3) else 1) ∧ (if (if t < 3 then t else 3) > 1 then (if t < 3 then t else 3) else 1) < 2 ^ 62 ∧ (if (if t < 3 then t else 3) > 1 then (if t < 3 then t else 3) else 1).toNat ≤ 3 := by
  by_cases h1 : t < 3
  · rw [if_pos h1]; split <;> omega
  · rw [if_neg h1]; split <;> omega
theorem all_true : ∀ {out : List D}, (∀ y ∈ out, y = .bl true) → ∃ bs : List Bool, out = bs.map .bl ∧ bs.all id = true
  | [], _ => ⟨[], rfl, rfl⟩
  | y :: out, h => by
    obtain ⟨bs, e, hb⟩ := all_true (out := out) fun z hz => h z (List.mem_cons_of_mem _ hz)
    exact ⟨true :: bs, by rw [h y List.mem_cons_self, e]; rfl, by simpa using hb⟩
end Vf

namespace Vf
open PySem PySem.Spec PyProof.Rows L2

/-! ### things that change: any kind -/
theorem RelH.putO {K : PySem.W.Frag} {m : Lay} {H : Hp} {h : DH} (r : RelH K m H h) {n : Nat} {a : Addr} (hn : m.m[n]? = some a) {o : HO} {d : DO} (rd : RelO K m (L2.upd H a o) a d) : RelH K m (L2.upd H a o) (h.set n d) := by
  have am : a ∈ m.m := List.mem_of_getElem? hn
  have sp : Step m H m (L2.upd H a o) := Step.put r _ am
  refine ⟨by rw [List.length_set]; exact r.len, r.nd, r.dj, fun b hb => ?_, fun j o e => ?_⟩
  · rw [sp.rsv b hb]; exact r.tr b hb
  by_cases hj : n = j
  · subst hj
    have hl : n < h.length := by
      have := (List.getElem?_eq_some_iff.mp e).1
      rwa [List.length_set] at this
    rw [List.getElem?_set_self hl] at e
    cases e
    exact ⟨a, hn, rd⟩
  · rw [List.getElem?_set_ne hj] at e
    obtain ⟨b, eb, q⟩ := r.ob j o e
    refine ⟨b, eb, ?_⟩
    have hne : b ≠ a := by
      rintro rfl
      exact hj ((List.getElem?_inj (List.getElem?_eq_some_iff.mp hn).1 r.nd).mp (hn.trans eb.symm))
    exact q.keep sp.mv (upd_ne hne)
theorem RelH.pushO {K : PySem.W.Frag} {m : Lay} {H : Hp} {h : DH} (r : RelH K m H h) {p : Addr} (hp : H p = none) {o : HO} {d : DO} (rd : RelO K (m.push p) (L2.upd H p o) p d) : RelH K (m.push p) (L2.upd H p o) (h ++ [d]) := by
  have sp : Step m H (m.push p) (L2.upd H p o) := Step.push r _ hp
  refine ⟨by show (m.m ++ [p]).length = _; rw [List.length_append, List.length_append, r.len]; rfl, ?_, fun a ha z => ?_, fun a ha => ?_, fun j o e => ?_⟩
  · show (m.m ++ [p]).Nodup
    rw [List.nodup_append]
    exact ⟨r.nd, by simp, fun a ha b hb e => by rw [List.mem_singleton.mp hb] at e; exact r.notin hp (.inl (e ▸ ha))⟩
  · rcases List.mem_append.mp ha with w | w
    · exact r.dj a w z
    · rw [List.mem_singleton.mp w] at z
      exact r.notin hp (.inr z)
  · rw [sp.rsv a ha]; exact r.tr a ha
  · by_cases hj : j < h.length
    · rw [List.getElem?_append_left hj] at e
      obtain ⟨a, ea, q⟩ := r.ob j o e
      obtain ⟨z, e1⟩ := q.some
      exact ⟨a, sp.at ea, q.keep sp.mv (upd_ne (ne_of_none e1 hp))⟩
    · rw [List.getElem?_append_right (Nat.le_of_not_lt hj)] at e
      have e0 : j - h.length = 0 := by
        have := (List.getElem?_eq_some_iff.mp e).1
        simp at this; omega
      rw [e0] at e
      cases e
      refine ⟨p, ?_, rd⟩
      show (m.m ++ [p])[j]? = _
      rw [List.getElem?_append_right (by rw [r.len]; omega), r.len, e0]; rfl

/-! ### attributes -/
def putN (f : Str) : List Str → List Str
  | [] => [f]
  | g :: r => if g = f then g :: r else g :: putN f r
def putX {α : Type} (f : Str) (v : α) : List Str → List α → List α
  | [], _ => [v]
  | _ :: _, [] => []
  | g :: r, x :: xs => if g = f then v :: xs else x :: putX f v r xs
theorem putX_zip (f : Str) (v : V) : ∀ (ns : List Str) (vs : List V), ns.length = vs.length → putF f v (ns.zip vs) = (putN f ns).zip (putX f v ns vs) ∧ (putN f ns).length = (putX f v ns vs).length
  | [], [], _ => ⟨rfl, rfl⟩
  | g :: r, x :: xs, hl => by
    have ih := putX_zip f v r xs (by simpa using hl)
    unfold putN putX
    rw [List.zip_cons_cons]
    unfold putF
    by_cases hg : g = f
    · rw [if_pos hg, if_pos hg, if_pos hg]
      exact ⟨rfl, by simpa using hl⟩
    · rw [if_neg hg, if_neg hg, if_neg hg, ih.1, List.zip_cons_cons]
      exact ⟨rfl, by simpa using ih.2⟩
  | [], _ :: _, hl => by simp at hl
  | _ :: _, [], hl => by simp at hl
theorem RelDs.putX {K : PySem.W.Frag} {m : Lay} {H : Hp} {f : Str} {d : D} {v : V} (rd : RelD K m H d v) : ∀ (ns : List Str) {ds : List D} {vs : List V}, RelDs K m H ds vs → RelDs K m H (Vf.putX f d ns ds) (Vf.putX f v ns vs)
  | [], ds, vs, r => by unfold Vf.putX RelDs RelDs; exact ⟨v, [], rfl, rd, rfl⟩
  | g :: ns, [], vs, r => by
    unfold RelDs at r; subst r
    unfold Vf.putX RelDs; rfl
  | g :: ns, d0 :: ds, vs, r => by
    unfold RelDs at r
    obtain ⟨x, t, rfl, r1, r2⟩ := r
    unfold Vf.putX
    by_cases hg : g = f
    · rw [if_pos hg, if_pos hg]; unfold RelDs; exact ⟨v, t, rfl, rd, r2⟩
    · rw [if_neg hg, if_neg hg]; unfold RelDs; exact ⟨x, _, rfl, r1, RelDs.putX rd ns r2⟩
def atF {α : Type} (f : Str) : List Str → List α → Option α
  | g :: r, x :: xs => if g = f then some x else atF f r xs
  | _, _ => none
theorem RelDs.atF {K : PySem.W.Frag} {m : Lay} {H : Hp} {f : Str} : ∀ {ns : List Str} {ds : List D} {vs : List V} {d : D}, RelDs K m H ds vs → Vf.atF f ns ds = some d → ∃ v, (ns.zip vs).lookup f = some v ∧ RelD K m H d v
  | [], ds, vs, d, r, e => by unfold Vf.atF at e; cases e
  | g :: ns, [], vs, d, r, e => by unfold Vf.atF at e; cases e
  | g :: ns, d0 :: ds, vs, d, r, e => by
    unfold RelDs at r
    obtain ⟨x, t, rfl, r1, r2⟩ := r
    unfold Vf.atF at e
    rw [List.zip_cons_cons]
    by_cases hg : g = f
    · rw [if_pos hg] at e; cases e
      have hb : (f == g) = true := beq_iff_eq.mpr hg.symm
      exact ⟨x, by simp only [List.lookup, hb], r1⟩
    · rw [if_neg hg] at e
      have hb : (f == g) = false := beq_eq_false_iff_ne.mpr fun z => hg z.symm
      obtain ⟨v, e1, r3⟩ := RelDs.atF r2 e
      exact ⟨v, by simp only [List.lookup, hb]; exact e1, r3⟩
/-- what is known of a class of the program: c its name, fs the attributes of its instances -/
structure ClsF (K : PySem.W.Frag) (c : Str) (fs : List Str) : Prop where
  ex : ∃ C, PySem.W.nsIn K mainGlobals c = some (some (.ref C)) ∧ Cls K C ∧ ∀ f ∈ fs, NoAttr K C f
section
variable {X : Cx}
def wAttr (c f : Str) (w : W1) : W1 := fun ρ h k => w ρ h fun d h1 => ∃ n ns ds v, d = .ref n ∧ h1[n]? = some (.obj c ns ds) ∧ atF f ns ds = some v ∧ k v h1
theorem de_attr {e : Expr} {w : W1} {c f : Str} {fs : List Str} {pos : Pos} (hc : ClsF X.K c fs) (hf : f ∈ fs) (he : DE X e w) (hb : attributeBase e f X.env (eval e X.env) = eval e X.env := by rfl) : DE X (.Attribute e f pos) (wAttr c f w) := by
  obtain ⟨C, nc, cc, na⟩ := hc.ex
  refine PE.imp (pe_fld he hb) fun σ H Q ⟨m, ρ, h, k, rs, rh, q, fo⟩ => ⟨m, ρ, h, _, rs, rh, q, fun d h1 v m1 H1 s1 rh1 rd q1 => ?_⟩
  obtain ⟨n, ns, ds, y, rfl, hn, ea, q2⟩ := q1
  unfold RelD at rd
  obtain ⟨a, rfl, ha⟩ := rd
  obtain ⟨b, eb, C', dx, vs, nc', ev, hl, r⟩ := rh1.ob n _ hn
  rw [ha] at eb; cases eb
  rw [nc] at nc'; cases nc'
  obtain ⟨z, ez, rz⟩ := r.atF ea
  exact ⟨a, C, dx, _, z, rfl, ev, cc, na f hf, ez, fo y h1 z m1 H1 s1 rh1 rz q2⟩
def wSetF (c f : Str) (wo wv : W1) : WS := fun e ρ h => wv ρ h fun y h1 => wo ρ h1 fun x h2 => ∃ n ns ds, x = .ref n ∧ h2[n]? = some (.obj c ns ds) ∧ ns.length < 1000 ∧ e.nx ρ (h2.set n (.obj c (putN f ns) (putX f y ns ds)))
theorem ds_setF {o value : Expr} {wo wv : W1} {c f : Str} {fs : List Str} {pos pos' : Pos} (hc : ClsF X.K c fs) (hf : f ∈ fs) (ho : DE X o wo) (hv : DE X value wv) (hs : swapsWith value (some (.Attribute o f pos')) pos.line X.env = pure false := by rfl) :
    DS X (.Assign [.Attribute o f pos'] value pos) (wSetF c f wo wv) := by
  obtain ⟨C, nc, cc, na⟩ := hc.ex
  refine PS.imp (ps_fld ho hv hs) fun D σ H ⟨m, ρ, h, e, rs, rh, q, fo⟩ => ⟨m, ρ, h, _, rs, rh, q, fun y h1 v m1 H1 s1 rh1 ry q1 => ⟨m1, ρ, h1, _, rs.step s1, rh1, q1, fun d h2 u m2 H2 s2 rh2 rd q2 => ?_⟩⟩
  obtain ⟨n, ns, ds, rfl, hn, hl, q3⟩ := q2
  unfold RelD at rd
  obtain ⟨a, rfl, ha⟩ := rd
  obtain ⟨b, eb, C', dx, vs, nc', ev, hl2, r⟩ := rh2.ob n _ hn
  rw [ha] at eb; cases eb
  rw [nc] at nc'; cases nc'
  have pz := putX_zip f v ns vs hl2
  have am : a ∈ m2.m := List.mem_of_getElem? ha
  refine ⟨a, C, dx, _, rfl, ev, cc, na f hf, by rw [List.length_zip]; omega, ?_⟩
  have st := Step.put rh2 (.ins C dx (putF f v (ns.zip vs))) am
  refine fo.nx _ _ σ m2 _ ((s1.trans s2).trans st) (((rs.step s1).step s2).step st) (rh2.putO (d := .obj c (putN f ns) (putX f y ns ds)) ha ⟨C, dx, _, nc, by rw [← pz.1]; exact upd_same, pz.2, ?_⟩) q3
  exact (RelDs.putX (ry.step s2) ns r).step st

/-! ### C(..) -/
theorem under_guards (A : Around) (C : Value) (us : List Value) (kw : List (Str × Value)) : (A.under (.builtin "type.__call__" ⟨C :: us, kw⟩)).guards = A.guards := by
  first | rfl | (cases A; simp [Around.under])
theorem runMakeG {CX : CXT} {n : Nat} {f C : Addr} {fd : FuncData} {ps : List Str} {sp : Sp} {E : XK} {pins : List (Addr × Obj)} {σ : L2.St} {H : Hp} {s : Shared} {Q : VK} {us : List Value} {vs : List V} (M : Mk X.K C f)
    (F : FnG X.prog X.w X.K X.mg X.base CX n f fd ps sp) (hg : X.A.guards = some []) (hr : Room (n + 1) X.A) (hx : Passes CX X E) (I : Inv X pins σ H s) (r : Vals vs us)
    (bnd : ∀ (s' : Shared) (ws : List Value), X.K.In s'.heap → ws.length = ps.length → BindsTo s' fd ⟨ws, []⟩ (ps.zip ws))
    (h : ∀ x dx, H x = none → H dx = none → dx ≠ x → sp (.ref x :: vs) (upd (upd H dx (.own x)) x (.ins C dx [])) (fun v H2 => v = .non ∧ Q (.ref x) H2) E) :
    wpAny (model X.prog X.w) X.A (call (.ref C) us) (EP X pins σ Q) X.xe s := by
  have hq := h (s.heap.objs.size + 1) s.heap.objs.size (I.hok.fresh (Nat.le_succ _)) (I.hok.fresh (Nat.le_refl _)) (Nat.ne_of_lt (Nat.lt_succ_self _))
  have I2 := Inv.made (C := C) I
  have r2 : Vals (V.ref (s.heap.objs.size + 1) :: vs) (Value.ref (s.heap.objs.size + 1) :: us) := .cons rfl r
  have hl : (Value.ref (s.heap.objs.size + 1) :: us).length = ps.length := by
    have e := r2.length
    rw [F.len _ _ _ _ hq] at e
    exact e.symm
  refine wpAny_call (make_map (f := f) I.kIn M.makes M.init (beq_iff_eq.mp M.fn) (codeAny_mono (F.go _ X.stack _ _ ⟨Value.ref (s.heap.objs.size + 1) :: us, []⟩ (Value.ref (s.heap.objs.size + 1) :: us) _ _ E ((under_guards _ _ _ _).trans hg) (hr.make C us [])
    (I2.env0.make C us []) (bnd _ (Value.ref (s.heap.objs.size + 1) :: us) I2.kIn hl) r2 hq) fun r s' hq' => ?_))
  cases r with
  | error e => exact hx pins σ _ _ e s' I2 hq'
  | ok fl =>
    cases fl with
    | ret u =>
      obtain ⟨v, H', I3, rv, ev, q3⟩ := I2.after hq'
      subst ev
      exact ⟨rv, ⟨V.ref (s.heap.objs.size + 1), H', I3, rfl, q3⟩⟩
    | next => exact False.elim hq'
    | brk => exact False.elim hq'
    | cont => exact False.elim hq'
end
/-- the class c is made by its __init__, which keeps S -/
structure DInit (P : Program) (w : World) (K : PySem.W.Frag) (mg : Str → Option Value) (base : Heap) (n : Nat) (c qual : Str) (st : Stmt) (ps : List Str) (S : DSp) : Prop where
  ex : ∃ C f fd, PySem.W.nsIn K mainGlobals c = some (some (.ref C)) ∧ mg c = some (.ref C) ∧ Mk K C f ∧ Fun K "__init__" qual st f fd ∧ FnG P w K mg base CX0 n f fd ps (spD K ps.length S)
theorem fnD_of {P : Program} {w : World} {K : PySem.W.Frag} {mg : Str → Option Value} {base : Heap} {n : Nat} {x qual : Str} {st : Stmt} {N ps : List Str} {S : DSp} {f : Addr} {fd : FuncData} (F : Fun K x qual st f fd) (Sc : FnScope N ps (defScope st))
    (hb : ∀ (cdv : Value) (A : Around) (ou : List Env) (s : Shared) (H : Hp) (E : XK), (A.deeper (envOfC qual (defScope st) s.heap.objs.size f cdv)).guards = some [] → Room n (A.deeper (envOfC qual (defScope st) s.heap.objs.size f cdv)) →
      ∃ ws, DSs (cxOf CX0 P w K mg base N qual (defScope st) f cdv A ou s H E).nox (defBody st) ws ∧ ∀ ds h k, ds.length = ps.length → S ds h k → ws { nx := fun _ h => k .non h, rt := k } (startD N ds) h) :
    FnG P w K mg base CX0 (n + 1) f fd ps (spD K ps.length S) := by
  obtain ⟨oc, od, kV, doc, pm, an, cdv, ct, osl, e, lk, hcd⟩ := F.ex
  subst e
  refine fnG_of lk hcd Sc (fun vs H Q E ⟨m, h, ds, k, rh, rd, hl, _⟩ => by rw [← rd.length]; exact hl) fun A ou s H vs Q E hg hr ⟨m, h, ds, k, rh, rd, hl, hS, fo⟩ => ?_
  obtain ⟨ws, hd, hw⟩ := hb cdv A ou s H E hg hr
  refine ⟨_, PSs.nox hd, m, startD N ds, h, _, start_rel rd, rh, hw ds h k hl hS, fun ρ' h' σ' m' H' s' rs' rh' q => fo .non h' .non m' H' s' rh' (by unfold RelD; rfl) q, fo, fun _ _ _ _ _ _ _ _ q => False.elim q, fun _ _ _ _ _ _ _ _ q => False.elim q⟩
section
variable {X : Cx} {n j : Nat} {c qual : Str} {st : Stmt} {ps : List Str} {S : DSp} {p pos : Pos}
def wMake (c : Str) (n : Nat) (S : DSp) (w : WL) : W1 := fun ρ h k => w ρ h fun ds h1 => ds.length + 1 = n ∧ S (.ref h1.length :: ds) (h1 ++ [.obj c [] []]) fun d h2 => d = .non ∧ k (.ref h1.length) h2
theorem make_rel {K : PySem.W.Frag} {m : Lay} {H : Hp} {h : DH} {c : Str} {C x dx : Addr} (nc : PySem.W.nsIn K mainGlobals c = some (some (.ref C))) (rh : RelH K m H h) (hx : H x = none) (hd : H dx = none) (ne : dx ≠ x) :
    Step m H (m.push x) (upd (upd H dx (.own x)) x (.ins C dx [])) ∧ RelH K (m.push x) (upd (upd H dx (.own x)) x (.ins C dx [])) (h ++ [.obj c [] []]) := by
  have s1 := Step.new rh (.own x) hd
  have rh1 := rh.new (.own x) hd
  have hx1 : upd H dx (.own x) x = none := by rw [upd_ne fun z => ne z.symm]; exact hx
  exact ⟨s1.trans (Step.push rh1 _ hx1), rh1.pushO (d := .obj c [] []) hx1 ⟨C, dx, [], nc, upd_same, rfl, by unfold RelDs; rfl⟩⟩
theorem de_make {e : Expr} {es : List Expr} {w : WL} (D : DInit X.prog X.w X.K X.mg X.base n c qual st ps S) (hgu : X.A.guards = some []) (hr : Room j X.A) (hj : n + 1 ≤ j)
    (hb : ∀ (kV doc pm : Value) (an : Option Addr) (cdv ct : Value) (us : List Value), us.length = ps.length → bindArgs (PySem.W.fnOf "__init__" qual (defArgs st) (defBody st) (defScope st) .none kV doc pm an cdv ct) ⟨us, []⟩ = pure (ps.zip us))
    (ha : DA X (e :: es) w) (hg : Gl X c := by rfl) (hdb : (c == ("__debug__" : Str)) = false := by decide) (he : starEach (e :: es) X.env = (false, eval e X.env) :: starEach es X.env := by rfl) (hpl : (backTo pos (starEach es X.env)).any (·.1) = false := by rfl) :
    DE X (.Call (.Name c p) (e :: es) [] pos) (wMake c ps.length S w) := by
  obtain ⟨C, f, fd, nc, mc, M, F, G⟩ := D.ex
  obtain ⟨oc, od, kV, doc, pm, an, cdv, ct, osl, ef, lk, hcd⟩ := F.ex
  refine ⟨fun pins s σ H Q I ⟨m, ρ, h, k, rs, rh, q, fo⟩ => ?_⟩
  refine wpAny_Call_Name_kw (ld_glob I hg mc ?_ hdb)
  refine PySem.W.callWith_K (h₀ := X.base) I.ok.mod.kin M.kp (thn (ha.run pos pins s σ H (fun vs H1 => ∃ m1 h1 ds, Step m H m1 H1 ∧ RelH X.K m1 H1 h1 ∧ RelDs X.K m1 H1 ds vs ∧ ds.length + 1 = ps.length ∧ S (.ref h1.length :: ds) (h1 ++ [.obj c [] []]) fun d h2 => d = .non ∧ k (.ref h1.length) h2) I
    ⟨m, ρ, h, _, rs, rh, q, fun ds h1 vs m1 H1 s1 rh1 rd q1 => ⟨m1, h1, ds, s1, rh1, rd, q1.1, q1.2⟩⟩) fun us s1 ⟨vs, H1, I1, rv, m1, h1, ds, st1, rh1, rd, hl, hS⟩ => ⟨I1.kIn, ?_⟩) he hpl
  refine runMakeG (E := E0) M G hgu (hr.mono hj) L2.pass0 I1 rv (fun s' ws _ hw => by subst ef; exact .of_eq (hb kV doc pm an cdv ct ws hw)) fun x dx hx hd ne => ?_
  obtain ⟨st2, rh2⟩ := make_rel nc rh1 hx hd ne
  refine ⟨m1.push x, _, .ref h1.length :: ds, _, rh2, ?_, by simpa using hl, hS, fun d h3 v m3 H3 s3 rh3 rd3 q3 => ?_⟩
  · unfold RelDs
    refine ⟨.ref x, vs, rfl, ?_, rd.step st2⟩
    unfold RelD
    exact ⟨x, rfl, push_at rh1.len⟩
  · obtain ⟨rfl, q4⟩ := q3
    unfold RelD at rd3
    refine ⟨rd3, fo (.ref h1.length) h3 (.ref x) m3 H3 ((st1.trans st2).trans s3) rh3 ?_ q4⟩
    unfold RelD
    exact ⟨x, rfl, s3.at (push_at rh1.len)⟩
end
end Vf

namespace Vf
open PySem PySem.Spec PyProof.Rows L2
section
variable {X : Cx}
/-- a statement that is never reached -/
theorem ds_dead {st : Stmt} : DS X st (fun _ _ _ => False) := ⟨fun pins s σ H Q I q => by obtain ⟨_, _, _, _, _, _, q, _⟩ := q; exact q.elim⟩

/-! ### methods of built-in types -/
abbrev WM := D → List D → DH → K1 → Prop
def rM (K : PySem.W.Frag) (w : WM) : V → List V → Hp → VK → Prop := fun x xs H Q => ∃ m h d ds k, RelH K m H h ∧ RelD K m H d x ∧ RelDs K m H ds xs ∧ w d ds h k ∧ Fol K m H k Q
def wMeth (ty : D → DH → Prop) (o : WM) (wo : W1) (wa : WL) : W1 := fun ρ h k => wo ρ h fun d h1 => ty d h1 ∧ wa ρ h1 fun ds h2 => o d ds h2 k
def wMeth0 (ty : D → DH → Prop) (o : WM) (wo : W1) : W1 := fun ρ h k => wo ρ h fun d h1 => ty d h1 ∧ o d [] h1 k
def TyOk (T : String) (ty : D → DH → Prop) : Prop := ∀ (K : PySem.W.Frag) (m : Lay) (H : Hp) (h : DH) (d : D) (v : V), RelH K m H h → RelD K m H d v → ty d h → tyV K T v H
section
variable {T id : String} {name : Str} {o e : Expr} {es : List Expr} {ty : D → DH → Prop} {wm : WM} {wo : W1} {wa : WL} {apos cpos : Pos}
theorem de_meth (pa : PlainAttrs T) (slot : Slot T name id) (hty : typeOf (.builtin id) = pure (.type "method_descriptor")) (hm : MtR X id (rM X.K wm)) (ht : TyOk T ty) (ho : DE X o wo) (ha : DA X (e :: es) wa)
    (hbase : attributeBase o name X.env (eval o X.env) = eval o X.env := by rfl)
    (hfew : ((backTo cpos (starEach (e :: es) X.env)).all (fun x => !x.1) && (backToKw cpos (keywordEach [] X.env)).all (fun x => x.1.isSome)
      && decide ((e :: es).length + ([] : List Keyword).length + (if ([] : List Keyword).isEmpty then 0 else 1) < 30)) = true := by rfl)
    (hline : (apos.endLine == cpos.line) = true := by rfl) (hs : starEach (e :: es) X.env = (false, eval e X.env) :: starEach es X.env := by rfl) (hplain : (backTo cpos (starEach es X.env)).any (·.1) = false := by rfl) :
    DE X (.Call (.Attribute o name apos) (e :: es) [] cpos) (wMeth ty wm wo wa) :=
  PE.imp (pe_bm pa slot hty hm ho ha hbase hfew hline hs hplain) fun σ H Q ⟨m, ρ, h, k, rs, rh, q, c⟩ => ⟨m, ρ, h, _, rs, rh, q, fun d h1 v m1 H1 s1 rh1 rd ⟨t, q1⟩ =>
    ⟨ht _ _ _ _ _ _ rh1 rd t, m1, ρ, h1, _, rs.step s1, rh1, q1, fun ds h2 vs m2 H2 s2 rh2 rds q2 => ⟨m2, h2, d, ds, k, rh2, rd.step s2, rds, q2, fun d' h3 v' m3 H3 s3 rh3 rd3 q3 => c d' h3 v' m3 H3 ((s1.trans s2).trans s3) rh3 rd3 q3⟩⟩⟩
theorem de_meth0 (pa : PlainAttrs T) (slot : Slot T name id) (hty : typeOf (.builtin id) = pure (.type "method_descriptor")) (hm : MtR X id (rM X.K wm)) (ht : TyOk T ty) (ho : DE X o wo)
    (hbase : attributeBase o name X.env (eval o X.env) = eval o X.env := by rfl) (hline : (apos.endLine == cpos.line) = true := by rfl) : DE X (.Call (.Attribute o name apos) [] [] cpos) (wMeth0 ty wm wo) :=
  PE.imp (pe_bm0 pa slot hty hm ho hbase hline) fun σ H Q ⟨m, ρ, h, k, rs, rh, q, c⟩ => ⟨m, ρ, h, _, rs, rh, q, fun d h1 v m1 H1 s1 rh1 rd ⟨t, q1⟩ =>
    ⟨ht _ _ _ _ _ _ rh1 rd t, m1, h1, d, [], k, rh1, rd, by unfold RelDs; rfl, q1, fun d' h3 v' m3 H3 s3 rh3 rd3 q3 => c d' h3 v' m3 H3 (s1.trans s3) rh3 rd3 q3⟩⟩
end
def isLst (d : D) (h : DH) : Prop := (∃ n xs, d = .ref n ∧ h[n]? = some (.lst xs)) ∨ ∃ xs, d = .lst xs
theorem isLst.ok : TyOk "list" isLst := by
  rintro K m H h d v rh rd (⟨n, xs, rfl, hn⟩ | ⟨xs, rfl⟩)
  · unfold RelD at rd
    obtain ⟨a, rfl, ha⟩ := rd
    obtain ⟨b, eb, vs, ev, rvs⟩ := rh.ob n _ hn
    rw [ha] at eb; cases eb
    exact .inl ⟨rfl, vs, SqL.of ev⟩
  · unfold RelD at rd
    obtain ⟨a, vs, rfl, ta, ra⟩ := rd
    exact .inl ⟨rfl, vs, ta.sq⟩
def wmAppend : WM := fun d ds h k => ∃ n xs y, d = .ref n ∧ ds = [y] ∧ h[n]? = some (.lst xs) ∧ xs.length < sizeLine ∧ k .non (h.set n (.lst (xs ++ [y])))
theorem mt_appendD : MtR X "list.append" (rM X.K wmAppend) := by
  rintro pins s σ H x xs v us Q I rx rv ⟨m, h, d, ds, k, rh, rd, rds, ⟨n, ys, y, e1, e2, hn, hl, q⟩, fo⟩
  subst e1 e2
  obtain ⟨z, rfl, rz⟩ := rds.one
  unfold RelD at rd
  obtain ⟨a, rfl, ha⟩ := rd
  obtain ⟨b, eb, vs, ev, rvs⟩ := rh.ob n _ hn
  rw [ha] at eb; cases eb
  refine mt_append pins s σ H (.ref a) [z] v us Q I rx rv ⟨a, vs, z, rfl, rfl, ev, by rw [← rvs.length]; exact hl, ?_⟩
  have st := Step.put rh (.lst (vs ++ [z])) (List.mem_of_getElem? ha)
  exact fo .non _ .non m _ st (rh.put ha (rvs.snoc rz)) (by unfold RelD; rfl) q
def wmExtend : WM := fun d ds h k => ∃ n xs ys, d = .ref n ∧ ds = [.lst ys] ∧ h[n]? = some (.lst xs) ∧ xs.length + ys.length ≤ sizeLine ∧ k .non (h.set n (.lst (xs ++ ys)))
theorem mt_extendD : MtR X "list.extend" (rM X.K wmExtend) := by
  rintro pins s σ H x xs v us Q I rx rv ⟨m, h, d, ds, k, rh, rd, rds, ⟨n, ys, y, e1, e2, hn, hl, q⟩, fo⟩
  subst e1 e2
  obtain ⟨z, rfl, rz⟩ := rds.one
  unfold RelD at rd rz
  obtain ⟨a, rfl, ha⟩ := rd
  obtain ⟨c, zs, rfl, tz, rzs⟩ := rz
  obtain ⟨b, eb, vs, ev, rvs⟩ := rh.ob n _ hn
  rw [ha] at eb; cases eb
  refine mt_extend pins s σ H (.ref a) [.ref c] v us Q I rx rv ⟨a, c, vs, zs, rfl, rfl, ev, tz.2, by rw [← rvs.length, ← rzs.length]; exact hl, ?_⟩
  have st := Step.put rh (.lst (vs ++ zs)) (List.mem_of_getElem? ha)
  exact fo .non _ .non m _ st (rh.put ha (rzs.app rvs)) (by unfold RelD; rfl) q
/-- tuple(list that changes) -/
def wTupleR : WOL := fun ds h k => wTupleOf ds h k ∨ ∃ n xs, ds = [.ref n] ∧ h[n]? = some (.lst xs) ∧ k (.tup xs) h
theorem ol_tupleR : OpL X (.type "tuple") wTupleR := by
  rintro pins s σ H xs us Q I r ⟨m, h, ds, k, rh, rd, q, f⟩
  rcases q with q | ⟨n, ys, e, hn, q⟩
  · exact ol_tuple pins s σ H xs us Q I r ⟨m, h, ds, k, rh, rd, q, f⟩
  · subst e
    obtain ⟨v, rfl, r1⟩ := rd.one
    unfold RelD at r1
    obtain ⟨a, rfl, ha⟩ := r1
    obtain ⟨b, eb, vs, ev, rvs⟩ := rh.ob n _ hn
    rw [ha] at eb; cases eb
    exact call_tuple_of pins s σ H _ us Q I r ⟨a, vs, rfl, .inl ⟨SqL.of ev, fun p hp => f.new rh hp (.tupNew rh hp rvs) q⟩⟩

/-! ### dicts with keys ints and texts -/
def kD : Key → D
  | .inl i => .int i
  | .inr x => .str x
theorem RelD.kD {K : PySem.W.Frag} {m : Lay} {H : Hp} {k : Key} {v : V} (r : RelD K m H (Vf.kD k) v) : v = kV k := by
  cases k with
  | inl i => unfold Vf.kD RelD at r; exact r
  | inr i => unfold Vf.kD RelD at r; exact r
theorem RelDs.kD {K : PySem.W.Frag} {m : Lay} {H : Hp} : ∀ {ks : List Key} {vs : List V}, RelDs K m H (ks.map Vf.kD) vs → vs = ks.map kV
  | [], vs, r => by unfold List.map RelDs at r; exact r
  | k :: ks, vs, r => by
    rw [List.map_cons] at r
    unfold RelDs at r
    obtain ⟨v, t, rfl, r1, r2⟩ := r
    rw [RelD.kD r1, RelDs.kD r2, List.map_cons]
def atK {α : Type} (k : Key) : List Key → List α → Option α
  | g :: r, x :: xs => if g = k then some x else atK k r xs
  | _, _ => none
theorem atK_val (k : Key) : ∀ (ks : List Key) (vs : List V), valV (ks.zip vs) k = atK k ks vs
  | [], vs => by unfold atK; rfl
  | g :: r, [] => by unfold atK; rfl
  | g :: r, x :: xs => by
    rw [List.zip_cons_cons]
    unfold atK
    by_cases e : g = k
    · rw [if_pos e, valV_pos (p := (g, x)) e]
    · rw [if_neg e, valV_neg (p := (g, x)) e]; exact atK_val k r xs
theorem RelDs.atK {K : PySem.W.Frag} {m : Lay} {H : Hp} {k : Key} : ∀ {ks : List Key} {ds : List D} {vs : List V}, RelDs K m H ds vs → (∀ d, Vf.atK k ks ds = some d → ∃ v, Vf.atK k ks vs = some v ∧ RelD K m H d v) ∧ (Vf.atK k ks ds = none → Vf.atK k ks vs = none)
  | [], ds, vs, r => by unfold Vf.atK; exact ⟨fun d e => (nomatch e), fun _ => rfl⟩
  | g :: ks, [], vs, r => by
    unfold RelDs at r; subst r
    unfold Vf.atK
    exact ⟨fun d e => (nomatch e), fun _ => rfl⟩
  | g :: ks, d0 :: ds, vs, r => by
    unfold RelDs at r
    obtain ⟨x, t, rfl, r1, r2⟩ := r
    unfold Vf.atK
    by_cases hg : g = k
    · rw [if_pos hg, if_pos hg]
      exact ⟨fun d e => by cases e; exact ⟨x, rfl, r1⟩, fun e => (nomatch e)⟩
    · rw [if_neg hg, if_neg hg]; exact RelDs.atK r2
theorem RelDs.atKD {K : PySem.W.Frag} {m : Lay} {H : Hp} {k : Key} {ks : List Key} {ds : List D} {vs : List V} {z : D} {y : V} (r : RelDs K m H ds vs) (rz : RelD K m H z y) : RelD K m H ((Vf.atK k ks ds).getD z) ((Vf.atK k ks vs).getD y) := by
  have h := RelDs.atK (k := k) (ks := ks) r
  cases e : Vf.atK k ks ds with
  | none => rw [h.2 e]; exact rz
  | some d =>
    obtain ⟨v, ev, rv⟩ := h.1 d e
    rw [ev]; exact rv
def hasK (k : Key) (ks : List Key) : Bool := ks.any fun g => decide (g = k)
theorem hasK_iff {k : Key} {ks : List Key} : hasK k ks = true ↔ k ∈ ks := by
  unfold hasK
  rw [List.any_eq_true]
  exact ⟨fun ⟨g, h, e⟩ => of_decide_eq_true e ▸ h, fun h => ⟨k, h, decide_eq_true rfl⟩⟩
def putKs (k : Key) (ks : List Key) : List Key := if hasK k ks = true then ks else ks ++ [k]
def putVs {α : Type} (k : Key) (v : α) (ks : List Key) (vs : List α) : List α := if hasK k ks = true then (ks.zip vs).map (fun p => if p.1 = k then v else p.2) else vs ++ [v]
theorem putK_zip (k : Key) (v : V) (ks : List Key) (vs : List V) (hl : ks.length = vs.length) : putK (ks.zip vs) k v = (putKs k ks).zip (putVs k v ks vs) ∧ (putKs k ks).length = (putVs k v ks vs).length := by
  have ha : ((ks.zip vs).any fun kv => decide (kv.1 = k)) = hasK k ks := by
    rw [Bool.eq_iff_iff, List.any_eq_true, hasK_iff]
    constructor
    · rintro ⟨p, hp, e⟩
      rw [← of_decide_eq_true e]
      exact (List.of_mem_zip (a := p.1) (b := p.2) hp).1
    · intro hk
      obtain ⟨i, hi⟩ := List.mem_iff_getElem?.mp hk
      have hi2 := (List.getElem?_eq_some_iff.mp hi).1
      refine ⟨(k, vs[i]'(by omega)), ?_, by simp⟩
      exact List.mem_of_getElem? (i := i) (List.getElem?_zip_eq_some.mpr ⟨hi, by simp [show i < vs.length by omega]⟩)
  unfold putK putKs putVs
  rw [ha]
  by_cases hk : hasK k ks = true
  · rw [if_pos hk, if_pos hk, if_pos hk]
    refine ⟨?_, by simp [hl]⟩
    clear ha hk
    induction ks generalizing vs with
    | nil => rfl
    | cons g r ih =>
      cases vs with
      | nil => simp at hl
      | cons x xs =>
        rw [List.zip_cons_cons, List.map_cons, List.map_cons, List.zip_cons_cons, ih xs (by simpa using hl)]
        by_cases e : g = k
        · simp [e]
        · simp [e]
  · rw [if_neg hk, if_neg hk, if_neg hk]
    refine ⟨?_, by simp [hl]⟩
    rw [List.zip_append hl]; rfl
theorem RelDs.putVs {K : PySem.W.Frag} {m : Lay} {H : Hp} {k : Key} {d : D} {v : V} (rd : RelD K m H d v) {ks : List Key} {ds : List D} {vs : List V} (r : RelDs K m H ds vs) : RelDs K m H (Vf.putVs k d ks ds) (Vf.putVs k v ks vs) := by
  unfold Vf.putVs
  by_cases hk : hasK k ks = true
  · rw [if_pos hk, if_pos hk]
    clear hk
    induction ks generalizing ds vs with
    | nil => unfold List.zip List.zipWith List.map RelDs; rfl
    | cons g t ih =>
      cases ds with
      | nil => unfold RelDs at r; subst r; unfold List.zip List.zipWith List.map RelDs; rfl
      | cons d0 ds =>
        unfold RelDs at r
        obtain ⟨x, xs, rfl, r1, r2⟩ := r
        rw [List.zip_cons_cons, List.zip_cons_cons, List.map_cons, List.map_cons]
        unfold RelDs
        refine ⟨_, _, rfl, ?_, ih r2⟩
        by_cases e : g = k
        · rw [if_pos e, if_pos e]; exact rd
        · rw [if_neg e, if_neg e]; exact r1
  · rw [if_neg hk, if_neg hk]; exact r.snoc rd
/-- the dict d: its keys, its values -/
def DKat (d : D) (h : DH) (ks : List Key) (ds : List D) : Prop := d = .dic ks ds ∨ ∃ n, d = .ref n ∧ h[n]? = some (.dk ks ds)
theorem DKat.rel {K : PySem.W.Frag} {m : Lay} {H : Hp} {h : DH} {d : D} {v : V} {ks : List Key} {ds : List D} (rh : RelH K m H h) (rd : RelD K m H d v) (e : DKat d h ks ds) : ∃ a vs, v = .ref a ∧ H a = some (.dK (ks.zip vs)) ∧ ks.length = vs.length ∧ RelDs K m H ds vs := by
  rcases e with rfl | ⟨n, rfl, hn⟩
  · unfold RelD at rd
    obtain ⟨a, vs, rfl, _, ha, hl, r⟩ := rd
    exact ⟨a, vs, rfl, ha, hl, r⟩
  · unfold RelD at rd
    obtain ⟨a, rfl, ha⟩ := rd
    obtain ⟨b, eb, vs, ev, hl, r⟩ := rh.ob n _ hn
    rw [ha] at eb; cases eb
    exact ⟨a, vs, rfl, ev, hl, r⟩
def isDk (d : D) (h : DH) : Prop := ∃ ks ds, DKat d h ks ds
theorem isDk.ok : TyOk "dict" isDk := by
  rintro K m H h d v rh rd ⟨ks, ds, e⟩
  obtain ⟨a, vs, rfl, ha, _⟩ := e.rel rh rd
  exact .inr (.inr (.inl ⟨rfl, .inl ⟨_, ha⟩⟩))
theorem Room.u1 {n : Nat} {A : Around} (r : Room n A) : A.units + 1 < cLine := by have := r.un; omega
/-- d[k] -/
def wDIx (a b : W1) : W1 := fun ρ h k => a ρ h fun x h1 => b ρ h1 fun y h2 => ∃ ks ds j d, DKat x h2 ks ds ∧ y = kD j ∧ atK j ks ds = some d ∧ k d h2
theorem de_dix {n : Nat} {a b : Expr} {wa wb : W1} {pos : Pos} (hr : Room n X.A) (ha : DE X a wa) (hb : DE X b wb) (hs : NoSl b := by exact fun _ _ => rfl) : DE X (.Subscript a b pos) (wDIx wa wb) :=
  PE.imp (pe_dget (Room.u1 hr) ha hb hs) fun σ H Q ⟨m, ρ, h, k, rs, rh, q, c⟩ => ⟨m, ρ, h, _, rs, rh, q, fun x h1 v m1 H1 s1 rh1 rx q1 => ⟨m1, ρ, h1, _, rs.step s1, rh1, q1, fun y h2 u m2 H2 s2 rh2 ry ⟨ks, ds, j, d, ek, ey, ed, q2⟩ => by
    subst ey
    obtain ⟨a, vs, rfl, ha, hl, r⟩ := ek.rel rh2 (rx.step s2)
    obtain ⟨z, ez, rz⟩ := (RelDs.atK r).1 d ed
    rw [RelD.kD ry]
    exact ⟨a, z, rfl, .inl ⟨_, j, .inl ha, rfl, by rw [atK_val, ez]⟩, c d h2 z m2 H2 (s1.trans s2) rh2 rz q2⟩⟩⟩
/-- d[k] = v -/
def wDPut (wo wi wv : W1) : WS := fun e ρ h => wv ρ h fun v h1 => wo ρ h1 fun x h2 => wi ρ h2 fun y h3 => ∃ n ks ds j, x = .ref n ∧ y = kD j ∧ h3[n]? = some (.dk ks ds) ∧ ks.length < sizeLine ∧ e.nx ρ (h3.set n (.dk (putKs j ks) (putVs j v ks ds)))
theorem ds_dput {n : Nat} {o i value : Expr} {wo wi wv : W1} {pos pos' : Pos} (hr : Room n X.A) (ho : DE X o wo) (hi : DE X i wi) (hv : DE X value wv) (hs : swapsWith value (some (.Subscript o i pos')) pos.line X.env = pure false := by rfl) :
    DS X (.Assign [.Subscript o i pos'] value pos) (wDPut wo wi wv) :=
  PS.imp (ps_dput (Room.u1 hr) ho hi hv hs) fun D σ H ⟨m, ρ, h, e, rs, rh, q, fo⟩ => ⟨m, ρ, h, _, rs, rh, q, fun v h1 u m1 H1 s1 rh1 rv q1 => ⟨m1, ρ, h1, _, rs.step s1, rh1, q1, fun x h2 w m2 H2 s2 rh2 rx q2 => ⟨m2, ρ, h2, _, (rs.step s1).step s2, rh2, q2, fun y h3 z m3 H3 s3 rh3 ry ⟨n, ks, ds, j, e1, e2, hn, hl, q3⟩ => by
    subst e1 e2
    have rx3 := rx.step s3
    unfold RelD at rx3
    obtain ⟨a, rfl, ha⟩ := rx3
    obtain ⟨b, eb, vs, ev, hl2, r⟩ := rh3.ob n _ hn
    rw [ha] at eb; cases eb
    have pz := putK_zip j u ks vs hl2
    have st := Step.put rh3 (.dK (putK (ks.zip vs) j u)) (List.mem_of_getElem? ha)
    refine ⟨a, _, rfl, .inl ⟨_, j, ev, RelD.kD ry, by rw [List.length_zip]; omega, rfl⟩, ?_⟩
    refine fo.nx ρ _ σ m3 _ (((s1.trans s2).trans s3).trans st) ((((rs.step s1).step s2).step s3).step st) (rh3.putO (d := .dk (putKs j ks) (putVs j v ks ds)) ha ⟨_, by rw [← pz.1]; exact upd_same, pz.2, ?_⟩) q3
    exact (RelDs.putVs ((rv.step s2).step s3) r).step st⟩⟩⟩
/-- d.get(k), d.get(k, x) -/
def wmGet : WM := fun d ds h k => ∃ ks es j, DKat d h ks es ∧ ((ds = [kD j] ∧ k ((atK j ks es).getD .non) h) ∨ ∃ z, ds = [kD j, z] ∧ k ((atK j ks es).getD z) h)
theorem mt_getD {n : Nat} (hr : Room n X.A) : MtR X "dict.get" (rM X.K wmGet) := by
  rintro pins s σ H x xs v us Q I rx rv ⟨m, h, d, ds, k, rh, rd, rds, ⟨ks, es, j, ek, q⟩, fo⟩
  obtain ⟨a, vs, rfl, ha, hl, r⟩ := ek.rel rh rd
  cases (show v = Value.ref a from rx)
  have hg : DGet H a (kV j) (valV (ks.zip vs) j) := DGet.k ha
  rcases q with ⟨rfl, q⟩ | ⟨z, rfl, q⟩
  · obtain ⟨u, rfl, ru⟩ := rds.one
    rw [RelD.kD ru] at rv
    obtain ⟨u', rfl, ry⟩ := rv.one
    refine d_get1 (Room.u1 hr) I hg ry fun w' s' I' rw' => ⟨_, H, I', rw', fo.now rh ?_ q⟩
    rw [atK_val]
    exact RelDs.atKD r (by unfold RelD; rfl)
  · obtain ⟨u, y, rfl, ru, ryy⟩ := rds.two
    rw [RelD.kD ru] at rv
    obtain ⟨u', y', rfl, ry, ry2⟩ := rv.two
    refine d_get2 (Room.u1 hr) I hg ry ry2 fun w' s' I' rw' => ⟨_, H, I', rw', fo.now rh ?_ q⟩
    rw [atK_val]
    exact RelDs.atKD r ryy
/-- k in d, k not in d -/
def wDIn (g : Bool → Bool) : WO2 := fun y x h k => ∃ ks ds j, DKat x h ks ds ∧ y = kD j ∧ k (.bl (g (atK j ks ds).isSome)) h
theorem atK_some {K : PySem.W.Frag} {m : Lay} {H : Hp} {j : Key} {ks : List Key} {ds : List D} {vs : List V} (r : RelDs K m H ds vs) : (valV (ks.zip vs) j).isSome = (atK j ks ds).isSome := by
  rw [atK_val]
  have h := RelDs.atK (k := j) (ks := ks) r
  cases e : atK j ks ds with
  | none => rw [h.2 e]; rfl
  | some d =>
    obtain ⟨v, ev, rv⟩ := h.1 d e
    rw [ev]; rfl
theorem op2_din {n : Nat} (hr : Room n X.A) : Op2 X (compareOp .In) (wDIn fun b => b) := by
  rintro pins s σ H x y v u Q I rx ry ⟨m, h, dx, dy, k, rh, r1, r2, ⟨ks, ds, j, ek, ey, q⟩, f⟩
  subst ey
  obtain ⟨a, vs, rfl, ha, hl, r⟩ := ek.rel rh r2
  cases (show u = Value.ref a from ry)
  rw [RelD.kD r1] at rx
  refine d_in (Room.u1 hr) I (DGet.k (k := j) ha) rx fun s' I' => ⟨.bl _, H, I', rfl, f.now rh (.blI _) ?_⟩
  rw [atK_some r]; exact q
theorem op2_dnotin {n : Nat} (hr : Room n X.A) : Op2 X (compareOp .NotIn) (wDIn fun b => !b) := by
  rintro pins s σ H x y v u Q I rx ry ⟨m, h, dx, dy, k, rh, r1, r2, ⟨ks, ds, j, ek, ey, q⟩, f⟩
  subst ey
  obtain ⟨a, vs, rfl, ha, hl, r⟩ := ek.rel rh r2
  cases (show u = Value.ref a from ry)
  rw [RelD.kD r1] at rx
  refine d_notIn (Room.u1 hr) I (DGet.k (k := j) ha) rx fun s' I' => ⟨.bl _, H, I', rfl, f.now rh (.blI _) ?_⟩
  rw [atK_some r]; exact q

/-! ### displays of dicts -/
def wPairs : List (W1 × W1) → Rho → DH → (List (D × D) → DH → Prop) → Prop
  | [], _, h, k => k [] h
  | (a, b) :: r, ρ, h, k => a ρ h fun x h1 => b ρ h1 fun y h2 => wPairs r ρ h2 fun ps h3 => k ((x, y) :: ps) h3
def tPs (K : PySem.W.Frag) (ws : List (W1 × W1)) : List (TE × TE) := ws.map fun p => (tD K p.1, tD K p.2)
def DPs (X : Cx) (pos : Pos) (keys : List (Option Expr)) (values : List Expr) (ws : List (W1 × W1)) : Prop := PPs X pos keys values (tPs X.K ws)
theorem dps_nil {pos : Pos} : DPs X pos [] [] [] := pps_nil
theorem dps_cons {pos : Pos} {k v : Expr} {ks : List (Option Expr)} {vs : List Expr} {a b : W1} {ws : List (W1 × W1)} (hk : DE X k a) (hv : DE X v b) (hr : DPs X pos ks vs ws) : DPs X pos (some k :: ks) (v :: vs) ((a, b) :: ws) := pps_cons hk hv hr
theorem pairs_ok {K : PySem.W.Frag} {σ : L2.St} {ρ : Rho} : ∀ (ws : List (W1 × W1)) {m : Lay} {H : Hp} {h : DH} {k : List (D × D) → DH → Prop} {Q : List (V × V) → Hp → Prop}, RelS K m H σ ρ → RelH K m H h → wPairs ws ρ h k →
    (∀ ps h' vs m' H', Step m H m' H' → RelH K m' H' h' → RelDs K m' H' (ps.map (·.1)) (vs.map (·.1)) → RelDs K m' H' (ps.map (·.2)) (vs.map (·.2)) → k ps h' → Q vs H') → tPairs (tPs K ws) σ H Q
  | [], m, H, h, k, Q, rs, rh, q, f => f [] h [] m H (Step.refl m H) rh (by unfold List.map RelDs; rfl) (by unfold List.map RelDs; rfl) q
  | (a, b) :: r, m, H, h, k, Q, rs, rh, q, f =>
    ⟨m, ρ, h, _, rs, rh, q, fun d h1 v m1 H1 s1 rh1 rd q1 => ⟨m1, ρ, h1, _, rs.step s1, rh1, q1, fun e h2 u m2 H2 s2 rh2 re q2 => pairs_ok r ((rs.step s1).step s2) rh2 q2 fun ps h3 vs m3 H3 s3 rh3 r1 r2 q3 =>
      f ((d, e) :: ps) h3 ((v, u) :: vs) m3 H3 ((s1.trans s2).trans s3) rh3 (by rw [List.map_cons, List.map_cons]; unfold RelDs; exact ⟨v, _, rfl, (rd.step s2).step s3, r1⟩) (by rw [List.map_cons, List.map_cons]; unfold RelDs; exact ⟨u, _, rfl, re.step s3, r2⟩) q3⟩⟩
theorem putK_fresh {kvs : List (Key × V)} {k : Key} {v : V} (h : k ∉ kvs.map (·.1)) : putK kvs k v = kvs ++ [(k, v)] := by
  unfold putK
  rw [if_neg]
  intro z
  obtain ⟨p, hp, e⟩ := List.any_eq_true.mp z
  exact h (List.mem_map.mpr ⟨p, hp, of_decide_eq_true e⟩)
theorem mergeK_nodup : ∀ (more acc : List (Key × V)), ((acc ++ more).map (·.1)).Nodup → mergeK acc more = acc ++ more
  | [], acc, _ => by unfold mergeK; simp
  | p :: r, acc, nd => by
    have e : putK acc p.1 p.2 = acc ++ [p] := putK_fresh (by
      rw [List.map_append, List.nodup_append] at nd
      intro z
      exact nd.2.2 _ z p.1 (by simp) rfl)
    show mergeK (putK acc p.1 p.2) r = _
    rw [e, mergeK_nodup r (acc ++ [p]) (by simpa using nd)]; simp
theorem RelH.take {K : PySem.W.Frag} {m : Lay} {H : Hp} {h : DH} (r : RelH K m H h) {p : Addr} {o : List Addr} (eo : m.o = p :: o) (no : p ∉ o) {d : DO} (rd : RelO K ⟨m.m ++ [p], o⟩ H p d) : RelH K ⟨m.m ++ [p], o⟩ H (h ++ [d]) ∧ Mv m H ⟨m.m ++ [p], o⟩ H := by
  have hp : p ∉ m.m := fun z => r.dj p z (by rw [eo]; exact List.mem_cons_self)
  have mv : Mv m H ⟨m.m ++ [p], o⟩ H := ⟨⟨[p], rfl⟩, fun a z n => absurd (by
    rcases z with z | z
    · rcases List.mem_append.mp z with z | z
      · exact .inl z
      · exact .inr (by rw [eo, List.mem_singleton.mp z]; exact List.mem_cons_self)
    · exact .inr (by rw [eo]; exact List.mem_cons_of_mem _ z)) n, fun a u _ e => e⟩
  refine ⟨⟨by show (m.m ++ [p]).length = _; rw [List.length_append, List.length_append, r.len]; rfl, ?_, fun a ha z => ?_, fun a ha => r.tr a (by rw [eo]; exact List.mem_cons_of_mem _ ha), fun j u e => ?_⟩, mv⟩
  · show (m.m ++ [p]).Nodup
    rw [List.nodup_append]
    exact ⟨r.nd, by simp, fun a ha b hb e => by rw [List.mem_singleton.mp hb] at e; exact hp (e ▸ ha)⟩
  · rcases List.mem_append.mp ha with w | w
    · exact r.dj a w (by rw [eo]; exact List.mem_cons_of_mem _ z)
    · rw [List.mem_singleton.mp w] at z
      exact no z
  · by_cases hj : j < h.length
    · rw [List.getElem?_append_left hj] at e
      obtain ⟨a, ea, q⟩ := r.ob j u e
      exact ⟨a, mv.at ea, q.keep mv rfl⟩
    · rw [List.getElem?_append_right (Nat.le_of_not_lt hj)] at e
      have e0 : j - h.length = 0 := by
        have := (List.getElem?_eq_some_iff.mp e).1
        simp at this; omega
      rw [e0] at e
      cases e
      refine ⟨p, ?_, rd⟩
      show (m.m ++ [p])[j]? = _
      rw [List.getElem?_append_right (by rw [r.len]; omega), r.len, e0]; rfl
def wDispM (ws : List (W1 × W1)) : W1 := fun ρ h k => wPairs ws ρ h fun ps h1 => ∃ ks : List Key, ps.map (·.1) = ks.map kD ∧ ks.Nodup ∧ ks.length ≤ 15 ∧ k (.ref h1.length) (h1 ++ [.dk ks (ps.map (·.2))])
def wDisp (ws : List (W1 × W1)) : W1 := fun ρ h k => wPairs ws ρ h fun ps h1 => ∃ ks : List Key, ps.map (·.1) = ks.map kD ∧ ks.Nodup ∧ ks.length ≤ 15 ∧ k (.dic ks (ps.map (·.2))) h1
theorem disp_all {σ : L2.St} {H : Hp} {Q : VK} {ws : List (W1 × W1)} {fin : K1 → List Key → List D → DH → Prop}
    (hfin : ∀ (k : K1) (m : Lay) (h : DH) (p : Addr) (ks : List Key) (ds : List D) (vs : List V) (m2 : Lay) (H3 : Hp), Fol X.K m H k Q → H p = none → m2.o = p :: m.o → p ∉ m.o → RelH X.K m2 H3 h → Step m H ⟨m2.m, m.o⟩ H3 → H3 p = some (.dK (ks.zip vs)) → ks.length = vs.length → RelDs X.K m2 H3 ds vs → fin k ks ds h → Q (.ref p) H3)
    (q : ∃ (m : Lay) (ρ : Rho) (h : DH) (k : K1), RelS X.K m H σ ρ ∧ RelH X.K m H h ∧ (wPairs ws ρ h fun ps h1 => ∃ ks : List Key, ps.map (·.1) = ks.map kD ∧ ks.Nodup ∧ ks.length ≤ 15 ∧ fin k ks (ps.map (·.2)) h1) ∧ Fol X.K m H k Q) :
    tDisp (tPs X.K ws) σ H Q := by
  obtain ⟨m, ρ, h, k, rs, rh, q, f⟩ := q
  intro p hp
  have np : ¬ m.pr p := rh.notin hp
  have no : p ∉ m.o := fun z => np (.inr z)
  refine pairs_ok ws (m := m.put p) (rs.mv (Mv.put _ hp)) (rh.put1 _ hp) q fun ps h1 vs m2 H2 s rh2 r1 r2 ⟨ks, eks, nd, l15, q2⟩ => ?_
  have po : p ∈ (m.put p).o := List.mem_cons_self
  have eo : m2.o = p :: m.o := s.same
  have po2 : p ∈ m2.o := by rw [eo]; exact List.mem_cons_self
  have ep : H2 p = some (.dK []) := (s.rsv p po).trans upd_same
  rw [eks] at r1
  have e1 := RelDs.kD r1
  have hl : ks.length = (vs.map (·.2)).length := by
    have := congrArg List.length e1
    simpa using this.symm
  have ev : vs = (ks.zip (vs.map (·.2))).map fun kv => (kV kv.1, kv.2) := by
    apply List.ext_getElem?
    intro i
    rw [List.getElem?_map]
    cases hv : vs[i]? with
    | none =>
      have : vs.length ≤ i := List.getElem?_eq_none_iff.mp hv
      rw [List.getElem?_eq_none_iff.mpr (by rw [List.length_zip, List.length_map]; omega)]; rfl
    | some y =>
      have hk : ∃ g, ks[i]? = some g := by
        have h1 := (List.getElem?_eq_some_iff.mp hv).1
        have h2 : i < ks.length := by rw [hl, List.length_map]; exact h1
        exact ⟨ks[i], by simp [h2]⟩
      obtain ⟨g, hg⟩ := hk
      rw [(List.getElem?_zip_eq_some (z := (g, y.2))).mpr ⟨hg, by rw [List.getElem?_map, hv]; rfl⟩]
      have e3 : (vs.map (·.1))[i]? = (ks.map kV)[i]? := by rw [e1]
      rw [List.getElem?_map, List.getElem?_map, hv, hg] at e3
      have e4 : y.1 = kV g := Option.some.inj e3
      show some y = some (kV g, y.2)
      rw [← e4]
  have hm : mergeK [] (ks.zip (vs.map (·.2))) = ks.zip (vs.map (·.2)) := by
    rw [mergeK_nodup _ _ ?_]; rfl
    rw [List.nil_append, List.map_fst_zip (by omega)]; exact nd
  refine ⟨ep, ks.zip (vs.map (·.2)), ev, by rw [List.length_zip]; omega, ?_⟩
  rw [hm]
  have sO : Step m H ⟨m2.m, m.o⟩ H2 := (Step.new rh (.dK []) hp).trans (s.hide (p := p) (o := m.o) rfl (fun z => rh2.dj p z po2) no)
  refine hfin k m h1 p ks _ (vs.map (·.2)) m2 _ f hp eo no (rh2.aside _ po2) ⟨⟨sO.mv.pre, sO.mv.new, fun a u n ea => ?_⟩, rfl, fun a ha => ?_⟩ upd_same hl (r2.mv (Mv.aside _ po2)) q2
  · rw [upd_ne (ne_of_none ea hp)]; exact sO.mv.keep a u n ea
  · rw [upd_ne (fun (z : a = p) => no (by rw [← z]; exact ha))]; exact sO.rsv a ha
theorem de_disp {pos : Pos} {keys : List (Option Expr)} {values : List Expr} {ws : List (W1 × W1)} (h : DPs X pos keys values ws) (hall : keys.all (·.isSome) = true := by rfl) (hl : keys.length = values.length := by rfl) (h0 : keys ≠ [] := by exact fun z => nomatch z) (h15 : keys.length ≤ 15 := by decide) :
    DE X (.Dict keys values pos) (wDisp ws) := PE.imp (pe_disp h hall hl h0 h15) fun σ H Q q => disp_all (fin := fun k ks ds h1 => k (.dic ks ds) h1) (fun k m h p ks ds vs m2 H3 f hp eo no rh st e hl r q => by
  have sub2 : ∀ a ∈ m.o, a ∈ m2.o := fun a ha => by rw [eo]; exact List.mem_cons_of_mem _ ha
  refine f (.dic ks ds) h (.ref p) ⟨m2.m, m.o⟩ H3 st (rh.back sub2) ?_ q
  unfold RelD
  refine ⟨p, vs, rfl, fun z => ?_, e, hl, r.mv (Mv.back sub2)⟩
  rcases z with z | z
  · exact rh.dj p z (by rw [eo]; exact List.mem_cons_self)
  · exact no z) q
theorem de_dispM {pos : Pos} {keys : List (Option Expr)} {values : List Expr} {ws : List (W1 × W1)} (h : DPs X pos keys values ws) (hall : keys.all (·.isSome) = true := by rfl) (hl : keys.length = values.length := by rfl) (h0 : keys ≠ [] := by exact fun z => nomatch z) (h15 : keys.length ≤ 15 := by decide) :
    DE X (.Dict keys values pos) (wDispM ws) := PE.imp (pe_disp h hall hl h0 h15) fun σ H Q q => disp_all (fin := fun (k : K1) ks ds (h1 : DH) => k (.ref h1.length) (h1 ++ [DO.dk ks ds])) (fun k m h p ks ds vs m2 H3 f hp eo no rh st e hl r q => by
  have mv : Mv m2 H3 ⟨m2.m ++ [p], m.o⟩ H3 := ⟨⟨[p], rfl⟩, fun a z n => absurd (by
    rcases z with z | z
    · rcases List.mem_append.mp z with z | z
      · exact .inl z
      · exact .inr (by rw [eo, List.mem_singleton.mp z]; exact List.mem_cons_self)
    · exact .inr (by rw [eo]; exact List.mem_cons_of_mem _ z)) n, fun a u _ e => e⟩
  obtain ⟨rh3, _⟩ := rh.take eo no (d := .dk ks ds) ⟨vs, e, hl, r.mv mv⟩
  obtain ⟨t, et⟩ := st.mv.pre
  refine f (.ref h.length) _ (.ref p) ⟨m2.m ++ [p], m.o⟩ H3 ⟨⟨⟨t ++ [p], ?_⟩, fun a z n => ?_, fun a u n ea => st.mv.keep a u n ea⟩, rfl, st.rsv⟩ rh3 ?_ q
  · show m2.m ++ [p] = _
    rw [show m2.m = m.m ++ t from et, List.append_assoc]
  · rcases z with z | z
    · rcases List.mem_append.mp z with z | z
      · exact st.mv.new a (.inl z) n
      · rw [List.mem_singleton.mp z]; exact hp
    · exact st.mv.new a (.inr z) n
  · unfold RelD
    refine ⟨p, rfl, ?_⟩
    show (m2.m ++ [p])[h.length]? = _
    rw [List.getElem?_append_right (by rw [rh.len]; omega), rh.len]; simp) q
end
end Vf

namespace Vf
open PySem PySem.Spec PyProof.Rows L2
/-- the method m of the class c keeps S -/
structure DMeth (P : Program) (w : World) (K : PySem.W.Frag) (mg : Str → Option Value) (base : Heap) (n : Nat) (c m qual : Str) (st : Stmt) (ps : List Str) (S : DSp) : Prop where
  ex : ∃ C f fd, PySem.W.nsIn K mainGlobals c = some (some (.ref C)) ∧ PySem.W.findIn K (.ref C) m = some (some (.ref f)) ∧ PySem.W.isFn K (.ref f) = true ∧ Fun K m qual st f fd ∧ FnG P w K mg base CX0 n f fd ps (spD K ps.length S)
section
variable {X : Cx} {n j : Nat} {c qual : Str} {st : Stmt} {ps : List Str} {S : DSp} {p pos : Pos}
def woEq (c : Str) (n : Nat) (S : DSp) : WO2 := fun x y h k => ∃ i ns ds j ns' ds', x = .ref i ∧ y = .ref j ∧ h[i]? = some (.obj c ns ds) ∧ h[j]? = some (.obj c ns' ds') ∧ n = 2 ∧ S [x, y] h fun r h' => ∃ b, r = .bl b ∧ k (.bl b) h'
theorem op2_eqO (D : DMeth X.prog X.w X.K X.mg X.base n c "__eq__" qual st ps S) (hgu : X.A.guards = some []) (hr : Room j X.A) (hj : n ≤ j)
    (hb : ∀ (kV doc pm : Value) (an : Option Addr) (cdv ct : Value) (us : List Value), us.length = ps.length → bindArgs (PySem.W.fnOf "__eq__" qual (defArgs st) (defBody st) (defScope st) .none kV doc pm an cdv ct) ⟨us, []⟩ = pure (ps.zip us)) :
    Op2 X (compareOp .Eq) (woEq c ps.length S) := by
  obtain ⟨C, f, fd, nc, hs, hf, F, G⟩ := D.ex
  rintro pins s σ H x y v u Q I rx ry ⟨m, h, dx, dy, k, rh, r1, r2, ⟨i, ns, ds, i', ns', ds', e1, e2, hi, hi', hl, hS⟩, fo⟩
  subst e1 e2
  have r1' := r1
  have r2' := r2
  unfold RelD at r1 r2
  obtain ⟨a, rfl, ha⟩ := r1
  obtain ⟨b, rfl, hb2⟩ := r2
  obtain ⟨a', ea, C1, dx1, vs1, nc1, ev1, _⟩ := rh.ob i _ hi
  rw [ha] at ea; cases ea
  rw [nc] at nc1; cases nc1
  obtain ⟨b', eb, C2, dx2, vs2, nc2, ev2, _⟩ := rh.ob i' _ hi'
  rw [hb2] at eb; cases eb
  rw [nc] at nc2; cases nc2
  cases (show v = Value.ref a from rx)
  cases (show u = Value.ref b from ry)
  obtain ⟨mA, J, _⟩ := ins_get I.hok ev1
  obtain ⟨mB, J', _⟩ := ins_get I.hok ev2
  obtain ⟨od, J, _⟩ := J.look
  obtain ⟨od', J', _⟩ := J'.look
  obtain ⟨mm, hF⟩ := I.fr
  show wpAny (model X.prog X.w) X.A (richCompare .Eq (.ref a) (.ref b)) (EP X pins σ Q) X.xe s
  refine PySem.W.cmp_K (op := .Eq) (tb := .ref C) hr.units0 hF I.ok.mod.kin J J'.type (by simp [PySem.W.notFirst]) hs hf ?_
  have rv : Vals [V.ref a, V.ref b] [Value.ref a, Value.ref b] := .cons rfl (.cons rfl .nil)
  have hbt := F.binds hb s [.ref a, .ref b] I.kIn (by simpa using hl.symm)
  refine wpAny_mono (runG (E := E0) (ws := [.ref a, .ref b]) (Q := fun v' H' => ∃ bb, v' = V.bl bb ∧ Q (.bl bb) H') G hgu (hr.mono hj) L2.pass0 I (by simpa using hbt) rv
    ⟨m, h, [.ref i, .ref i'], _, rh, ?_, hl.symm, hS, fun d h3 v' m3 H3 s3 rh3 rd3 q3 => ?_⟩) (fun w' s' q => ?_) fun _ _ z => z
  · unfold RelDs RelDs RelDs
    exact ⟨_, _, rfl, r1', _, _, rfl, r2', rfl⟩
  · obtain ⟨bb, rfl, q4⟩ := q3
    unfold RelD at rd3
    exact ⟨bb, rd3, fo (.bl bb) h3 (.bl bb) m3 H3 s3 rh3 (.blI bb) q4⟩
  · obtain ⟨z, H', I', rz, bb, rfl, q'⟩ := q
    cases (show w' = Value.bool bb from rz)
    exact ⟨.bl bb, H', I', rfl, q'⟩
theorem de_eqO {a b : Expr} {wa wb : W1} (D : DMeth X.prog X.w X.K X.mg X.base n c "__eq__" qual st ps S) (hgu : X.A.guards = some []) (hr : Room j X.A) (hj : n ≤ j)
    (hb : ∀ (kV doc pm : Value) (an : Option Addr) (cdv ct : Value) (us : List Value), us.length = ps.length → bindArgs (PySem.W.fnOf "__eq__" qual (defArgs st) (defBody st) (defScope st) .none kV doc pm an cdv ct) ⟨us, []⟩ = pure (ps.zip us))
    (ha : DE X a wa) (hb' : DE X b wb) (hm : behindInMarks .Eq b = false := by first | exact nomark _ | with_unfolding_all rfl) : DE X (.Compare a [.Eq] [b] pos) (wBin (woEq c ps.length S) wa wb) := de_cmp (op2_eqO D hgu hr hj hb) ha hb' hm
/-- what is known of a class that isinstance is asked about -/
structure ClsI (K : PySem.W.Frag) (mg : Str → Option Value) (c : Str) : Prop where
  ex : ∃ C, PySem.W.nsIn K mainGlobals c = some (some (.ref C)) ∧ mg c = some (.ref C) ∧ C8.InsC K C
def wIsO (c : Str) (w : W1) : W1 := fun ρ h k => w ρ h fun d h1 => ∃ n ns ds, d = .ref n ∧ h1[n]? = some (.obj c ns ds) ∧ k (.bl true) h1
theorem de_isO {e : Expr} {w : W1} {p2 : Pos} (hc : ClsI X.K X.mg c) (he : DE X e w) (hg : Gl X "isinstance") (hm : X.mg "isinstance" = none) (hg2 : Gl X c := by rfl) (hd2 : (c == ("__debug__" : Str)) = false := by decide)
    (he1 : starEach [e, .Name c p2] X.env = (false, eval e X.env) :: starEach [.Name c p2] X.env := by rfl) (he2 : starEach [.Name c p2] X.env = (false, eval (.Name c p2) X.env) :: starEach [] X.env := by rfl) (hpl : (backTo pos (starEach [.Name c p2] X.env)).any (·.1) = false := by rfl) :
    DE X (.Call (.Name "isinstance" p) [e, .Name c p2] [] pos) (wIsO c w) := by
  obtain ⟨C, nc, mc, ic⟩ := hc.ex
  refine PE.imp (pe_callB (C8.call_isC ic) hg hm (by decide +kernel) (pa_cons he (pa_cons (C8.pe_gc (v := .ref C) hg2 ⟨_, mc, rfl⟩ hd2) pa_nil he2) he1) (by decide) (by decide) he1 hpl) fun σ H Q ⟨m, ρ, h, k, rs, rh, q, c⟩ => ⟨m, ρ, h, _, rs, rh, q, fun d h1 v m1 H1 s1 rh1 rd ⟨i, ns, ds, e1, hi, q1⟩ => ?_⟩
  subst e1
  unfold RelD at rd
  obtain ⟨a, rfl, ha⟩ := rd
  obtain ⟨a', ea, C1, dx1, vs1, nc1, ev1, _⟩ := rh1.ob i _ hi
  rw [ha] at ea; cases ea
  rw [nc] at nc1; cases nc1
  exact ⟨a, dx1, _, rfl, ev1, c (.bl true) h1 (.bl true) m1 H1 s1 rh1 (.blI true) q1⟩
end
end Vf

namespace Vf
open PySem PySem.Spec PyProof.Rows L2
/-! ### plain data: == is equality -/
mutual
def pln : D → Bool
  | .non => true
  | .int _ => true
  | .str _ => true
  | .tup xs => plns xs
  | .lst xs => plns xs
  | _ => false
def plns : List D → Bool
  | [] => true
  | x :: xs => pln x && plns xs
end
mutual
theorem pln_eq : ∀ (x y : D), pln x = true → pln y = true → (PyData.eqv (toPy x) (toPy y) = true ↔ x = y)
  | .non, y, _, hy => by cases y <;> first | (unfold toPy PyData.eqv; simp; done) | (unfold pln at hy; exact Bool.noConfusion hy)
  | .int i, y, _, hy => by cases y <;> first | (unfold toPy PyData.eqv; simp; done) | (unfold pln at hy; exact Bool.noConfusion hy)
  | .str i, y, _, hy => by cases y <;> first | (unfold toPy PyData.eqv; simp; done) | (unfold pln at hy; exact Bool.noConfusion hy)
  | .tup xs, y, hx, hy => by
    cases y with
    | tup ys =>
      unfold pln at hx hy
      unfold toPy PyData.eqv
      rw [plns_eq xs ys hx hy]; simp
    | _ => first | (unfold toPy PyData.eqv; simp; done) | (unfold pln at hy; exact Bool.noConfusion hy)
  | .lst xs, y, hx, hy => by
    cases y with
    | lst ys =>
      unfold pln at hx hy
      unfold toPy PyData.eqv
      rw [plns_eq xs ys hx hy]; simp
    | _ => first | (unfold toPy PyData.eqv; simp; done) | (unfold pln at hy; exact Bool.noConfusion hy)
  | .bl _, _, hx, _ => by unfold pln at hx; cases hx
  | .rol _, _, hx, _ => by unfold pln at hx; cases hx
  | .ref _, _, hx, _ => by unfold pln at hx; cases hx
  | .sx _ _, _, hx, _ => by unfold pln at hx; cases hx
  | .dic _ _, _, hx, _ => by unfold pln at hx; cases hx
  | .kd _ _ _, _, hx, _ => by unfold pln at hx; cases hx
theorem plns_eq : ∀ (xs ys : List D), plns xs = true → plns ys = true → (PyData.eqvAll (toPys xs) (toPys ys) = true ↔ xs = ys)
  | [], [], _, _ => by unfold toPys PyData.eqvAll; simp
  | [], y :: ys, _, _ => by unfold toPys PyData.eqvAll; simp
  | x :: xs, [], _, _ => by unfold toPys PyData.eqvAll; simp
  | x :: xs, y :: ys, hx, hy => by
    unfold plns at hx hy
    rw [Bool.and_eq_true] at hx hy
    unfold toPys PyData.eqvAll
    rw [Bool.and_eq_true, pln_eq x y hx.1 hy.1, plns_eq xs ys hx.2 hy.2, List.cons.injEq]
end
theorem dEq_iff {x y : D} (hx : pln x = true) (hy : pln y = true) : dEq x y = true ↔ x = y := pln_eq x y hx hy
theorem dEq_ne {x y : D} (hx : pln x = true) (hy : pln y = true) (h : x ≠ y) : dEq x y = false := by
  cases e : dEq x y with
  | false => rfl
  | true => exact absurd ((dEq_iff hx hy).mp e) h
theorem plns_map {α : Type} {f : α → D} : ∀ {xs : List α}, (∀ x ∈ xs, pln (f x) = true) → plns (xs.map f) = true
  | [], _ => by unfold List.map plns; rfl
  | x :: xs, h => by rw [List.map_cons]; unfold plns; rw [h x List.mem_cons_self, plns_map fun y hy => h y (List.mem_cons_of_mem _ hy)]; rfl
theorem plns_mem : ∀ {xs : List D}, plns xs = true → ∀ x ∈ xs, pln x = true
  | [], _, x, h => nomatch h
  | y :: xs, h, x, hx => by
    unfold plns at h
    rw [Bool.and_eq_true] at h
    rcases List.mem_cons.mp hx with e | hx
    · exact e ▸ h.1
    · exact plns_mem h.2 x hx
theorem inD_iff {x : D} {ys : List D} (hx : pln x = true) (hy : plns ys = true) : inD x ys = true ↔ x ∈ ys := by
  unfold inD
  rw [List.any_eq_true]
  constructor
  · rintro ⟨y, h1, h2⟩
    rw [← (dEq_iff (plns_mem hy y h1) hx).mp h2]; exact h1
  · intro h
    exact ⟨x, h, (dEq_iff hx hx).mpr rfl⟩
theorem inD_map_inj {α : Type} {f : α → D} (x : α) (ys : List α) (hp : ∀ y, pln (f y) = true) (inj : ∀ a b, f a = f b → a = b) [DecidableEq α] : inD (f x) (ys.map f) = decide (x ∈ ys) := by
  rw [Bool.eq_iff_iff, inD_iff (hp x) (plns_map fun y _ => hp y), decide_eq_true_eq, List.mem_map]
  exact ⟨fun ⟨a, h, e⟩ => inj _ _ e ▸ h, fun h => ⟨x, h, rfl⟩⟩
/-! ### lists of texts as data -/
def txs (xs : List Str) : D := .tup (xs.map .str)
theorem map_str_inj : ∀ {xs ys : List Str}, xs.map D.str = ys.map D.str → xs = ys
  | [], [], _ => rfl
  | [], _ :: _, h => by simp at h
  | _ :: _, [], h => by simp at h
  | x :: xs, y :: ys, h => by
    rw [List.map_cons, List.map_cons, List.cons.injEq] at h
    rw [D.str.inj h.1, map_str_inj h.2]
theorem txs_inj {xs ys : List Str} (h : txs xs = txs ys) : xs = ys := map_str_inj (D.tup.inj h)
theorem pln_txs (xs : List Str) : pln (txs xs) = true := by unfold txs pln; exact plns_map fun _ _ => by unfold pln; rfl
theorem pln_str (x : Str) : pln (.str x) = true := by unfold pln; rfl
theorem pln_tup {xs : List D} (h : plns xs = true) : pln (.tup xs) = true := by unfold pln; exact h
theorem pln_lst {xs : List D} (h : plns xs = true) : pln (.lst xs) = true := by unfold pln; exact h
theorem plns_cons {x : D} {xs : List D} (h : pln x = true) (t : plns xs = true) : plns (x :: xs) = true := by unfold plns; rw [h, t]; rfl
theorem plns_nil : plns [] = true := by unfold plns; rfl
/-! ### formats, channels, systems -/
structure Fmt where
  wr : List Str
  nd : List Str
  kn : List Str
deriving DecidableEq
def Fmt.d (f : Fmt) : D := .tup [txs f.wr, txs f.nd, txs f.kn]
def Fmt.rd (f : Fmt) : D := .tup [txs f.nd, txs f.kn]
structure Chan where
  nm : Str
  snd : Str
  rcv : Str
  old : Fmt
  new : Fmt
deriving DecidableEq
def Chan.d (c : Chan) : D := .tup [.str c.nm, .str c.snd, .str c.rcv, c.old.d, c.new.d]
def chsD (cs : List Chan) : D := .tup (cs.map Chan.d)
/-- fields -/
structure OkF (xs : List Str) : Prop where
  nm : ∀ x ∈ xs, nameOk x
  asc : Asc xs
  len : xs.length ≤ 12
structure OkFmt (f : Fmt) : Prop where
  wr : OkF f.wr
  nd : OkF f.nd
  kn : OkF f.kn
  nk : ∀ x ∈ f.nd, x ∈ f.kn
  nw : ∀ x ∈ f.nd, x ∈ f.wr
  wk : ∀ x ∈ f.wr, x ∈ f.kn
structure OkCh (svc : List Str) (c : Chan) : Prop where
  nm : nameOk c.nm
  snd : c.snd ∈ svc
  rcv : c.rcv ∈ svc
  old : OkFmt c.old
  new : OkFmt c.new
structure OkSys (svc : List Str) (cs : List Chan) : Prop where
  nm : ∀ x ∈ svc, nameOk x
  asc : Asc svc
  l1 : 1 ≤ svc.length
  l12 : svc.length ≤ 12
  ch : ∀ c ∈ cs, OkCh svc c
  casc : Asc (cs.map Chan.nm)
  l40 : cs.length ≤ 40
theorem OkF.okN {xs : List Str} (h : OkF xs) : okN xs := okN_names (by have := h.len; omega) h.nm
theorem Sm.name {x : Str} (h : nameOk x) : Sm 0 8 (.str x) := (Sm.str h.ok).mono (Nat.le_refl _) h.2.1
theorem Sm.names {xs : List Str} {n : Nat} (h : ∀ x ∈ xs, nameOk x) (hl : xs.length ≤ n) : Sm 1 (9 * n) (txs xs) := by
  refine (Sms.tup (Sms.of (dp := 0) (wt := 8) fun d hd => ?_)).mono (Nat.le_refl _) ?_
  · obtain ⟨x, hx, rfl⟩ := List.mem_map.mp hd
    exact Sm.name (h x hx)
  · rw [List.length_map]; exact Nat.mul_le_mul_left 9 hl
theorem OkF.sm {xs : List Str} (h : OkF xs) : Sm 1 108 (txs xs) := Sm.names h.nm h.len
theorem OkFmt.sm {f : Fmt} (h : OkFmt f) : Sm 2 327 f.d := Sms.tup (Sms.cons h.wr.sm (Sms.cons h.nd.sm (Sms.cons h.kn.sm (Sms.nil 1 0))))
theorem OkFmt.smR {f : Fmt} (h : OkFmt f) : Sm 2 218 f.rd := Sms.tup (Sms.cons h.nd.sm (Sms.cons h.kn.sm (Sms.nil 1 0)))
theorem OkCh.sm {svc : List Str} (hs : ∀ x ∈ svc, nameOk x) {c : Chan} (h : OkCh svc c) : Sm 3 700 c.d := by
  have n1 := (Sm.name h.nm).mono (Nat.zero_le 2) (Nat.le_refl _)
  have n2 := (Sm.name (hs _ h.snd)).mono (Nat.zero_le 2) (Nat.le_refl _)
  have n3 := (Sm.name (hs _ h.rcv)).mono (Nat.zero_le 2) (Nat.le_refl _)
  exact (Sms.tup (Sms.cons n1 (Sms.cons n2 (Sms.cons n3 (Sms.cons h.old.sm (Sms.cons h.new.sm (Sms.nil 2 0))))))).mono (Nat.le_refl _) (by omega)
theorem OkSys.smS {svc : List Str} {cs : List Chan} (h : OkSys svc cs) : Sm 1 108 (txs svc) := Sm.names h.nm h.l12
theorem OkSys.smC {svc : List Str} {cs : List Chan} (h : OkSys svc cs) : Sm 4 28040 (chsD cs) := by
  refine (Sms.tup (Sms.of (dp := 3) (wt := 700) fun d hd => ?_)).mono (Nat.le_refl _) ?_
  · obtain ⟨c, hc, rfl⟩ := List.mem_map.mp hd
    exact (h.ch c hc).sm h.nm
  · rw [List.length_map]; have := h.l40; omega
theorem Fmt.d_pln (f : Fmt) : pln f.d = true := pln_tup (plns_cons (pln_txs _) (plns_cons (pln_txs _) (plns_cons (pln_txs _) plns_nil)))
theorem Fmt.rd_pln (f : Fmt) : pln f.rd = true := pln_tup (plns_cons (pln_txs _) (plns_cons (pln_txs _) plns_nil))
theorem Chan.d_pln (c : Chan) : pln c.d = true := pln_tup (plns_cons (pln_str _) (plns_cons (pln_str _) (plns_cons (pln_str _) (plns_cons (Fmt.d_pln _) (plns_cons (Fmt.d_pln _) plns_nil)))))
theorem chsD_pln (cs : List Chan) : pln (chsD cs) = true := pln_tup (plns_map fun c _ => c.d_pln)
def acc (needs knows sent : List Str) : Bool := (needs.all fun x => decide (x ∈ sent)) && sent.all fun x => decide (x ∈ knows)
theorem acc_iff {a b c : List Str} : acc a b c = true ↔ (∀ x ∈ a, x ∈ c) ∧ ∀ x ∈ c, x ∈ b := by
  unfold acc
  simp only [Bool.and_eq_true, List.all_eq_true, decide_eq_true_eq]
/-- the kind of a channel -/
def Chan.ona (c : Chan) : Bool := acc c.old.nd c.old.kn c.new.wr
def Chan.nao (c : Chan) : Bool := acc c.new.nd c.new.kn c.old.wr
def Chan.kind (c : Chan) : Str := if c.ona && c.nao then Str.ofString "free" else if c.nao then Str.ofString "reader first" else if c.ona then Str.ofString "writer first" else Str.ofString "split"
def Chan.ex (c : Chan) : Chan := ⟨c.nm, c.snd, c.rcv, c.new, c.old⟩
theorem OkSys.ex {svc : List Str} {cs : List Chan} (h : OkSys svc cs) : OkSys svc (cs.map Chan.ex) := by
  refine ⟨h.nm, h.asc, h.l1, h.l12, fun c hc => ?_, ?_, by rw [List.length_map]; exact h.l40⟩
  · obtain ⟨d, hd, rfl⟩ := List.mem_map.mp hc
    have o := h.ch d hd
    exact ⟨o.nm, o.snd, o.rcv, o.new, o.old⟩
  · rw [List.map_map]; exact h.casc
/-- the urn may have changed, and things may have been made -/
structure UG (u : Nat) (h h' : DH) : Prop where
  len : h.length ≤ h'.length
  oth : ∀ j, j ≠ u → j < h.length → h'[j]? = h[j]?
  urn : Urn h' u
theorem UM.g {u : Nat} {h h' : DH} (a : UM u h h') : UG u h h' := ⟨Nat.le_of_eq a.len.symm, fun j hj _ => a.oth j hj, a.urn⟩
theorem UG.trans {u : Nat} {h h1 h2 : DH} (a : UG u h h1) (b : UG u h1 h2) : UG u h h2 := ⟨Nat.le_trans a.len b.len, fun j hj hl => (b.oth j hj (Nat.lt_of_lt_of_le hl a.len)).trans (a.oth j hj hl), b.urn⟩
theorem UG.refl {u : Nat} {h : DH} (a : Urn h u) : UG u h h := ⟨Nat.le_refl _, fun _ _ _ => rfl, a⟩
theorem Urn.lt {u : Nat} {h : DH} (a : Urn h u) : u < h.length := by
  obtain ⟨x, y, e, _⟩ := a
  exact (List.getElem?_eq_some_iff.mp e).1
/-- something is made -/
theorem UG.push {u : Nat} {h : DH} (a : Urn h u) (o : DO) : UG u h (h ++ [o]) := by
  have hl := a.lt
  refine ⟨by simp, fun j _ hj => List.getElem?_append_left hj, ?_⟩
  obtain ⟨x, y, e, r⟩ := a
  exact ⟨x, y, by rw [List.getElem?_append_left hl]; exact e, r⟩
/-- something that was made since changes -/
theorem UG.set {u : Nat} {h h' : DH} (a : UG u h h') {n : Nat} (hn : h.length ≤ n) (hu : u < h.length) (o : DO) : UG u h (h'.set n o) := by
  refine ⟨by rw [List.length_set]; exact a.len, fun j h1 h2 => ?_, ?_⟩
  · rw [List.getElem?_set_ne (by omega)]; exact a.oth j h1 h2
  · obtain ⟨x, y, e, r⟩ := a.urn
    exact ⟨x, y, by rw [List.getElem?_set_ne (by omega)]; exact e, r⟩
/-- .. that was there -/
theorem UG.at {u : Nat} {h h' : DH} (a : UG u h h') {n : Nat} {o : DO} (hn : n ≠ u) (e : h[n]? = some o) : h'[n]? = some o := by
  rw [a.oth n hn (List.getElem?_eq_some_iff.mp e).1]; exact e
end Vf

namespace Vf
open PySem PySem.Spec PyProof.Rows L2
theorem set_last {α : Type} (h : List α) (a b : α) : (h ++ [a]).set h.length b = h ++ [b] := by simp
theorem get_last {α : Type} (h : List α) (a : α) : (h ++ [a])[h.length]? = some a := by simp
theorem Fmt.d_inj {f g : Fmt} (h : f.d = g.d) : f = g := by
  obtain ⟨a, b, c⟩ := f
  obtain ⟨a', b', c'⟩ := g
  unfold Fmt.d at h
  have h := D.tup.inj h
  simp only [List.cons.injEq, and_true] at h
  obtain ⟨h1, h2, h3⟩ := h
  rw [txs_inj h1, txs_inj h2, txs_inj h3]
theorem Fmt.rd_inj {f g : Fmt} (h : f.rd = g.rd) : f.nd = g.nd ∧ f.kn = g.kn := by
  unfold Fmt.rd at h
  have h := D.tup.inj h
  simp only [List.cons.injEq, and_true] at h
  exact ⟨txs_inj h.1, txs_inj h.2⟩
theorem Chan.d_inj {f g : Chan} (h : f.d = g.d) : f = g := by
  obtain ⟨a, b, c, o, n⟩ := f
  obtain ⟨a', b', c', o', n'⟩ := g
  unfold Chan.d at h
  have h := D.tup.inj h
  simp only [List.cons.injEq, and_true] at h
  obtain ⟨h1, h2, h3, h4, h5⟩ := h
  rw [D.str.inj h1, D.str.inj h2, D.str.inj h3, Fmt.d_inj h4, Fmt.d_inj h5]
theorem map_inj {α : Type} {f : α → D} (inj : ∀ a b, f a = f b → a = b) : ∀ {xs ys : List α}, xs.map f = ys.map f → xs = ys
  | [], [], _ => rfl
  | [], _ :: _, h => by simp at h
  | _ :: _, [], h => by simp at h
  | x :: xs, y :: ys, h => by
    rw [List.map_cons, List.map_cons, List.cons.injEq] at h
    rw [inj _ _ h.1, map_inj inj h.2]
theorem chsD_inj {cs ds : List Chan} (h : chsD cs = chsD ds) : cs = ds := map_inj (fun _ _ => Chan.d_inj) (D.tup.inj h)
theorem dEq_chs (cs ds : List Chan) : dEq (chsD cs) (chsD ds) = decide (cs = ds) := by
  rw [Bool.eq_iff_iff, dEq_iff (chsD_pln _) (chsD_pln _), decide_eq_true_eq]
  exact ⟨chsD_inj, fun h => by rw [h]⟩
theorem dEq_txs (xs ys : List Str) : dEq (txs xs) (txs ys) = decide (xs = ys) := by
  rw [Bool.eq_iff_iff, dEq_iff (pln_txs _) (pln_txs _), decide_eq_true_eq]
  exact ⟨txs_inj, fun h => by rw [h]⟩
/-- the system at n -/
def SysAt (h : DH) (n : Nat) (svc : List Str) (cs : List Chan) : Prop := h[n]? = some (.obj "System" ["services", "channels"] [txs svc, chsD cs])
def sysO (svc : List Str) (cs : List Chan) : DO := .obj "System" ["services", "channels"] [txs svc, chsD cs]
theorem nodup_inj {α β : Type} {f : α → β} : ∀ {l : List α}, (l.map f).Nodup → ∀ a ∈ l, ∀ b ∈ l, f a = f b → a = b
  | [], _, a, ha, _, _, _ => nomatch ha
  | x :: l, h, a, ha, b, hb, e => by
    rw [List.map_cons, List.nodup_cons] at h
    rcases List.mem_cons.mp ha with rfl | ha'
    · rcases List.mem_cons.mp hb with rfl | hb
      · rfl
      · exact absurd (show f a ∈ l.map f from List.mem_map.mpr ⟨b, hb, e.symm⟩) h.1
    · rcases List.mem_cons.mp hb with rfl | hb
      · exact absurd (show f b ∈ l.map f from List.mem_map.mpr ⟨a, ha', e⟩) h.1
      · exact nodup_inj h.2 a ha' b hb e
theorem OkSys.uniq {svc : List Str} {cs : List Chan} (h : OkSys svc cs) {a b : Chan} (ha : a ∈ cs) (hb : b ∈ cs) (e : a.nm = b.nm) : a = b := nodup_inj h.casc.nodup a ha b hb e
theorem for_rest {T : Tg} {b : WS} {ok : DH → Prop} {e : DEn} (J : List D → Rho → DH → Prop) (hok : ∀ its ρ h, J its ρ h → ok h) (hd : ∀ ρ h, J [] ρ h → e.nx ρ h)
    (hs : ∀ x its ρ h, J (x :: its) ρ h → ∀ e' : DEn, (∀ ρ h, J its ρ h → e'.nx ρ h) → (∀ ρ h, J its ρ h → e'.ct ρ h) → e'.bk = e.nx → e'.rt = e.rt → ∃ ρ1, tgD T x ρ = some ρ1 ∧ b e' ρ1 h) : ∀ {its : List D} {ρ : Rho} {h : DH}, J its ρ h → forGo T b ok e its ρ h
  | [], ρ, h, j => ⟨hok _ ρ h j, hd ρ h j⟩
  | x :: its, ρ, h, j => ⟨hok _ ρ h j, hs x its ρ h j _ (fun ρ' h' j' => for_rest J hok hd hs j') (fun ρ' h' j' => for_rest J hok hd hs j') rfl rfl⟩
/-- a dict whose values are all alike -/
def Shp (P : D → Prop) (ks : List Key) (ds : List D) : Prop := ks.length = ds.length ∧ ∀ d ∈ ds, P d
theorem Shp.put {P : D → Prop} {ks : List Key} {ds : List D} (s : Shp P ks ds) (k : Key) {v : D} (hv : P v) : Shp P (putKs k ks) (putVs k v ks ds) := by
  unfold putKs putVs
  by_cases hk : hasK k ks = true
  · rw [if_pos hk, if_pos hk]
    refine ⟨by simp [s.1], fun d hd => ?_⟩
    obtain ⟨p, hp, e⟩ := List.mem_map.mp hd
    have hm := (List.of_mem_zip (a := p.1) (b := p.2) hp).2
    by_cases c : p.1 = k
    · rw [if_pos c] at e; exact e ▸ hv
    · rw [if_neg c] at e; exact e ▸ s.2 _ hm
  · rw [if_neg hk, if_neg hk]
    refine ⟨by simp [s.1], fun d hd => ?_⟩
    rcases List.mem_append.mp hd with h | h
    · exact s.2 d h
    · rw [List.mem_singleton.mp h]; exact hv
theorem Shp.get {P : D → Prop} {k : Key} : ∀ {ks : List Key} {ds : List D}, Shp P ks ds → hasK k ks = true → ∃ d, atK k ks ds = some d ∧ P d
  | [], ds, s, h => by unfold hasK at h; simp at h
  | g :: ks, [], s, h => by have := s.1; simp at this
  | g :: ks, d :: ds, s, h => by
    unfold atK
    by_cases e : g = k
    · rw [if_pos e]; exact ⟨d, rfl, s.2 d List.mem_cons_self⟩
    · rw [if_neg e]
      refine Shp.get ⟨by simpa using s.1, fun x hx => s.2 x (List.mem_cons_of_mem _ hx)⟩ ?_
      unfold hasK at h ⊢
      rw [List.any_cons, decide_eq_false e, Bool.false_or] at h
      exact h
theorem hasK_put (j k : Key) (ks : List Key) : hasK j (putKs k ks) = true ↔ hasK j ks = true ∨ k = j := by
  rw [hasK_iff, hasK_iff]
  unfold putKs
  by_cases hk : hasK k ks = true
  · rw [if_pos hk]
    exact ⟨fun h => .inl h, fun h => h.elim (fun h => h) fun e => e ▸ hasK_iff.mp hk⟩
  · rw [if_neg hk, List.mem_append, List.mem_singleton]
    exact ⟨fun h => h.imp (fun h => h) fun e => e.symm, fun h => h.imp (fun h => h) fun e => e.symm⟩
theorem putKs_len (k : Key) (ks : List Key) : (putKs k ks).length ≤ ks.length + 1 := by
  unfold putKs
  split
  · omega
  · simp
/-- one argument by name -/
def gOne {α : Type} (_ ws : List α) : List α := ws
/-! small formats: two names at most in each part -/
structure OkS2 (f : Fmt) : Prop where
  ok : OkFmt f
  l1 : f.wr.length ≤ 2
  l2 : f.nd.length ≤ 2
  l3 : f.kn.length ≤ 2
theorem okF_nil : OkF [] := ⟨fun _ h => (nomatch h), List.Pairwise.nil, Nat.zero_le _⟩
theorem okF_one {a : Str} (ha : nameOk a) : OkF [a] := ⟨fun x h => by rw [List.mem_singleton.mp h]; exact ha, List.pairwise_singleton _ _, by simp⟩
theorem okF_two {a b : Str} (ha : nameOk a) (hb : nameOk b) (h : a.cps.toList < b.cps.toList) : OkF [a, b] := ⟨fun x hx => by
    rcases List.mem_cons.mp hx with rfl | hx
    · exact ha
    · rw [List.mem_singleton.mp hx]; exact hb, by
    show List.Pairwise _ _
    rw [List.pairwise_cons]
    exact ⟨fun y hy => by rw [List.mem_singleton.mp hy]; exact h, List.pairwise_singleton _ _⟩, by simp⟩
/-- old and new format of a channel -/
def PairD (d : D) : Prop := ∃ f g : Fmt, d = .tup [f.d, g.d] ∧ OkS2 f ∧ OkS2 g
theorem szlt {n : Nat} (h : n < 16777216) : n < sizeLine := by rw [sizeLine_eq]; exact h
theorem seq_cut {a b : WS} {e : DEn} {ρ : Rho} {h : DH} (Mid : Rho → DH → Prop) (h2 : ∀ ρ' h', Mid ρ' h' → b e ρ' h') (h1 : ∀ nx : KS, (∀ ρ' h', Mid ρ' h' → nx ρ' h') → a { e with nx := nx } ρ h) : wSeq a b e ρ h := h1 _ h2
/-- the dict of shapes at n while it is filled -/
def ShS (h : DH) (u n : Nat) (hN : DH) (kn : List Str) (m : Nat) : Prop := ∃ ks ds, hN[n]? = some (.dk ks ds) ∧ Shp PairD ks ds ∧ ks.length ≤ m ∧ UG u h hN ∧ h.length ≤ n ∧ u < h.length ∧ ∀ x ∈ kn, hasK (.inr x) ks = true
theorem ShS.put {h : DH} {u n : Nat} {hN : DH} {kn : List Str} {m : Nat} (s : ShS h u n hN kn m) (x : Str) {v : D} (hv : PairD v) (hm : m < 1000) :
    ∃ ks ds, hN[n]? = some (.dk ks ds) ∧ ks.length < sizeLine ∧ ShS h u n (hN.set n (.dk (putKs (.inr x) ks) (putVs (.inr x) v ks ds))) (x :: kn) (m + 1) := by
  obtain ⟨ks, ds, e, sh, hl, ug, hn, hu, hk⟩ := s
  refine ⟨ks, ds, e, szlt (by omega), _, _, List.getElem?_set_self (List.getElem?_eq_some_iff.mp e).1, sh.put _ hv, ?_, ug.set hn hu _, hn, hu, fun y hy => ?_⟩
  · have := putKs_len (.inr x) ks; omega
  · rw [hasK_put]
    rcases List.mem_cons.mp hy with rfl | hy
    · exact .inr rfl
    · exact .inl (hk y hy)
theorem ShS.um {h : DH} {u n : Nat} {hN hN' : DH} {kn : List Str} {m : Nat} (s : ShS h u n hN kn m) (um : UM u hN hN') : ShS h u n hN' kn m := by
  obtain ⟨ks, ds, e, sh, hl, ug, hn, hu, hk⟩ := s
  exact ⟨ks, ds, by rw [um.oth n (by omega)]; exact e, sh, hl, ug.trans um.g, hn, hu, hk⟩
theorem ShS.ug {h : DH} {u n : Nat} {hN : DH} {kn : List Str} {m : Nat} (s : ShS h u n hN kn m) : UG u h hN := let ⟨_, _, _, _, _, ug, _⟩ := s; ug
theorem ShS.get {h : DH} {u n : Nat} {hN : DH} {kn : List Str} {m : Nat} (s : ShS h u n hN kn m) {x : Str} (hx : x ∈ kn) : ∃ ks ds d, hN[n]? = some (.dk ks ds) ∧ atK (.inr x) ks ds = some d ∧ PairD d := by
  obtain ⟨ks, ds, e, sh, hl, ug, hn, hu, hk⟩ := s
  obtain ⟨d, e1, e2⟩ := sh.get (hk x hx)
  exact ⟨ks, ds, d, e, e1, e2⟩
def kinds7 : List Str := ["same", "writer", "reader", "free", "reader first", "writer first", "split"]
/-- the shapes of a pair of names -/
theorem shapes7 {a b : Str} (ha : nameOk a) (hb : nameOk b) (hab : a.cps.toList < b.cps.toList) :
    OkS2 ⟨[a], [a], [a, b]⟩ ∧ OkS2 ⟨[a, b], [a], [a, b]⟩ ∧ OkS2 ⟨[a], [a], [a]⟩ ∧ OkS2 ⟨[a], [], [a, b]⟩ ∧ OkS2 ⟨[a, b], [a, b], [a, b]⟩ ∧ OkS2 ⟨[b], [b], [b]⟩ ∧ OkS2 ⟨[a], [], [a]⟩ ∧ OkS2 ⟨[b], [], [b]⟩ ∧ OkS2 ⟨[a, b], [b], [a, b]⟩ := by
  have o0 := okF_nil
  have o1 := okF_one ha
  have o2 := okF_one hb
  have o3 := okF_two ha hb hab
  refine ⟨⟨⟨o1, o1, o3, ?_, ?_, ?_⟩, ?_, ?_, ?_⟩, ⟨⟨o3, o1, o3, ?_, ?_, ?_⟩, ?_, ?_, ?_⟩, ⟨⟨o1, o1, o1, ?_, ?_, ?_⟩, ?_, ?_, ?_⟩, ⟨⟨o1, o0, o3, ?_, ?_, ?_⟩, ?_, ?_, ?_⟩, ⟨⟨o3, o3, o3, ?_, ?_, ?_⟩, ?_, ?_, ?_⟩, ⟨⟨o2, o2, o2, ?_, ?_, ?_⟩, ?_, ?_, ?_⟩, ⟨⟨o1, o0, o1, ?_, ?_, ?_⟩, ?_, ?_, ?_⟩, ⟨⟨o2, o0, o2, ?_, ?_, ?_⟩, ?_, ?_, ?_⟩, ⟨⟨o3, o2, o3, ?_, ?_, ?_⟩, ?_, ?_, ?_⟩⟩ <;> simp
theorem ltStr {a b : Str} (h : decide (a.cps.toList < b.cps.toList) = true) : a.cps.toList < b.cps.toList := of_decide_eq_true h
def nameB (x : Str) : Bool := decide (1 ≤ x.cps.size) && decide (x.cps.size ≤ 8) && x.cps.toList.all fun c => decide (97 ≤ c) && decide (c ≤ 122)
theorem nameOk_of {x : Str} (h : nameB x = true) : nameOk x := by
  unfold nameB at h
  simp only [Bool.and_eq_true, decide_eq_true_eq, List.all_eq_true] at h
  exact ⟨h.1.1, h.1.2, h.2⟩
theorem dints3 : dints 0 (3 : Int).toNat = [.int 0, .int 1, .int 2] := rfl
/-- the parts of a format, each with the same names more -/
theorem more_ok {f : Fmt} (h : OkS2 f) {ex y1 y2 y3 : List Str} (hx : ∀ x ∈ ex, nameOk x) (lx : ex.length ≤ 1) (s1 : sortedS y1 = true) (n1 : y1.Nodup) (m1 : ∀ x, x ∈ y1 ↔ x ∈ distS (f.wr ++ ex)) (z1 : y1.length = (distS (f.wr ++ ex)).length)
    (s2 : sortedS y2 = true) (n2 : y2.Nodup) (m2 : ∀ x, x ∈ y2 ↔ x ∈ distS (f.nd ++ ex)) (z2 : y2.length = (distS (f.nd ++ ex)).length)
    (s3 : sortedS y3 = true) (n3 : y3.Nodup) (m3 : ∀ x, x ∈ y3 ↔ x ∈ distS (f.kn ++ ex)) (z3 : y3.length = (distS (f.kn ++ ex)).length) : OkFmt ⟨y1, y2, y3⟩ := by
  have d1 := distS_len (f.wr ++ ex)
  have d2 := distS_len (f.nd ++ ex)
  have d3 := distS_len (f.kn ++ ex)
  rw [List.length_append] at d1 d2 d3
  have l1 := h.l1
  have l2 := h.l2
  have l3 := h.l3
  have m1' : ∀ x, x ∈ y1 ↔ x ∈ f.wr ∨ x ∈ ex := fun x => by rw [m1, mem_distS, List.mem_append]
  have m2' : ∀ x, x ∈ y2 ↔ x ∈ f.nd ∨ x ∈ ex := fun x => by rw [m2, mem_distS, List.mem_append]
  have m3' : ∀ x, x ∈ y3 ↔ x ∈ f.kn ∨ x ∈ ex := fun x => by rw [m3, mem_distS, List.mem_append]
  refine ⟨⟨fun x hy => ((m1' x).mp hy).elim (h.ok.wr.nm x) (hx x), asc_of _ s1 n1, (by show y1.length ≤ 12; omega)⟩, ⟨fun x hy => ((m2' x).mp hy).elim (h.ok.nd.nm x) (hx x), asc_of _ s2 n2, (by show y2.length ≤ 12; omega)⟩, ⟨fun x hy => ((m3' x).mp hy).elim (h.ok.kn.nm x) (hx x), asc_of _ s3 n3, (by show y3.length ≤ 12; omega)⟩, ?_, ?_, ?_⟩
  · intro x hy; exact (m3' x).mpr (((m2' x).mp hy).imp (h.ok.nk x) fun z => z)
  · intro x hy; exact (m1' x).mpr (((m2' x).mp hy).imp (h.ok.nw x) fun z => z)
  · intro x hy; exact (m3' x).mpr (((m1' x).mp hy).imp (h.ok.wk x) fun z => z)
theorem ol_setW {X : Cx} {w : World} (hw : X.w = w) (hc : X.calm = true) : OpL X (.type "set") (wSetOf w) := by subst hw; exact ol_set hc
theorem ol_sortedW {X : Cx} {w : World} (hw : X.w = w) (hc : X.calm = true) : OpL X (.builtin "sorted") (wSorted w) := by subst hw; exact ol_sorted hc
theorem gen_h {α : Type} {P : DH → Prop} {g : α → DH → Prop} {x : α} {hN : DH} (s : P hN) (q : ∀ h', P h' → g x h') : g x hN := q hN s
end Vf

namespace Vf
open PySem PySem.Spec PyProof.Rows L2
/-! ### comprehensions with two clauses -/
theorem loop_it {J : It} {n : Nat} {G : Hp → Prop} {Y : Nat → Hp → V → Hp → Prop} (w : Walk J n G Y) {B : V → Hp → (Hp → Prop) → Prop} {H0 : Hp} {Qd : Hp → Prop} (Pv : Nat → Hp → Prop) (h0 : Pv 0 H0) (hG : ∀ i H, i ≤ n → Pv i H → G H)
    (hs : ∀ i x H H', i < n → Pv i H → Y i H x H' → B x H' (Pv (i + 1))) (hd : ∀ H, Pv n H → Qd H) :
    ∃ W : Nat → Nat → Hp → Prop, (∃ m, W 0 m H0) ∧ ∀ i m H, W i m H → (J.stop i H ∧ Qd H) ∨ (J.go i H ∧ ∃ Nx : Hp → Prop, (∀ H', Nx H' → ∃ m', m' < m ∧ W (i + 1) m' H') ∧ ∀ x H', J.yld i H x H' → B x H' Nx) := by
  refine ⟨fun i m H => m = n - i ∧ i ≤ n ∧ Pv i H, ⟨n, by simp, Nat.zero_le _, h0⟩, ?_⟩
  rintro i m H ⟨rfl, hi, p⟩
  have q := hG i H hi p
  by_cases hlt : i < n
  · refine .inr ⟨w.goes i H hlt q, Pv (i + 1), fun H' p' => ⟨n - (i + 1), by omega, rfl, hlt, p'⟩, fun x H' y => hs i x H H' hlt p (w.yields i H x H' hlt q y)⟩
  · have e : i = n := by omega
    subst e
    exact .inl ⟨w.stops H q, hd H p⟩
def lcGo2 (T : Tg) (t : WB) (wi1 : WI) (T1 : Tg) (t1 : WB) (e : W1) (vs1 : List Nat) (ok : DH → Prop) (ρ : Rho) (fin : List D → DH → Prop) : List D → List D → DH → Prop
  | [], acc, h => ok h ∧ fin acc h
  | x :: xs, acc, h => ok h ∧ ∃ ρ1, tgD T x ρ = some ρ1 ∧ t ρ1 h fun b h1 => if b = true then wi1 ρ1 h1 fun it1 h2 => lcGo T1 t1 e it1.ok (wipeD ρ1 vs1) (fun acc' h3 => lcGo2 T t wi1 T1 t1 e vs1 ok ρ fin xs acc' h3) it1.its acc h2 else lcGo2 T t wi1 T1 t1 e vs1 ok ρ fin xs acc h1
def wLc2 (wi : WI) (T : Tg) (t : WB) (wi1 : WI) (T1 : Tg) (t1 : WB) (e : W1) (vs vs1 : List Nat) : W1 := fun ρ h k => wi ρ h fun it h1 => lcGo2 T t wi1 T1 t1 e vs1 it.ok (wipeD ρ vs) (fun acc h2 => k (.lst acc) h2) it.its [] h1
section
variable {X : Cx}
theorem lc2_all {σ : L2.St} {H : Hp} {Q : VK} {wi wi1 : WI} {T T1 : Tg} {t t1 : WB} {e : W1} {vs vs1 : List Nat} (hv : ∀ i ∈ tgS T, i ∈ vs) (hv1 : ∀ i ∈ tgS T1, i ∈ vs1)
    (q : tD X.K (wLc2 wi T t wi1 T1 t1 e vs vs1) σ H Q) :
    tLc2 (tDI X.K wi) (tgG X.K T) (tDB X.K t) (tDI X.K wi1) (tgG X.K T1) (tDB X.K t1) (tD X.K e) vs vs1 σ H Q := by
  obtain ⟨m, ρ, h, k, rs, rh, q, f⟩ := q
  refine ⟨m, ρ, h, _, rs, rh, q, fun it h1 m1 H1 J s1 rh1 ⟨G, Y, wk, hG, hY⟩ q1 p hp => ?_⟩
  have np : ¬ m1.pr p := rh1.notin hp
  have no : p ∉ m1.o := fun z => np (.inr z)
  refine loop_it wk (fun i H2 => ∃ (m2 : Lay) (h2 : DH) (acc : List D) (us : List V), m2.o = p :: m1.o ∧ Step m1 H1 ⟨m2.m, m1.o⟩ H2 ∧ Mv m1 H1 m2 H2 ∧ H2 p = some (.lst us) ∧ RelH X.K m2 H2 h2 ∧ RelS X.K m2 H2 (L2.wipe σ vs) (wipeD ρ vs) ∧ RelDs X.K m2 H2 acc us ∧
      lcGo2 T t wi1 T1 t1 e vs1 it.ok (wipeD ρ vs) (fun acc h2 => k (.lst acc) h2) (it.its.drop i) acc h2)
    ⟨m1.put p, h1, [], [], rfl, ⟨⟨⟨[], by simp [Lay.put]⟩, fun b z n => absurd z n, fun b u n eb => by rw [upd_ne (ne_of_none eb hp)]; exact eb⟩, rfl, fun b hb => upd_ne fun z => np (.inr (z ▸ hb))⟩, Mv.put _ hp, upd_same, rh1.put1 _ hp, ((rs.step s1).mv (Mv.put _ hp)).wipe vs, by unfold RelDs; rfl, by simpa using q1⟩ ?_ ?_ ?_
  · rintro i H2 hi ⟨m2, h2, acc, us, eo, s2, mv2, ep, rh2, rs2, ra, q2⟩
    refine hG m2 H2 h2 mv2 rh2 ?_
    cases hd : it.its.drop i <;> (rw [hd] at q2; unfold lcGo2 at q2; exact q2.1)
  · rintro i x H2 H3 hi ⟨m2, h2, acc, us, eo, s2, mv2, ep, rh2, rs2, ra, q2⟩ y
    have hd : it.its.drop i = it.its[i] :: it.its.drop (i + 1) := List.drop_eq_getElem_cons hi
    rw [hd] at q2
    unfold lcGo2 at q2
    obtain ⟨ok2, ρ3, e3, q3⟩ := q2
    obtain ⟨d, ed, st, rh3, rd⟩ := hY i m2 H2 x H3 h2 mv2 rh2 ok2 y
    have e4 : d = it.its[i] := by simpa [hi] using ed.symm
    subst e4
    have po : p ∈ m2.o := by rw [eo]; exact List.mem_cons_self
    refine tg_ok T rd (rs2.step st) e3 fun σ4 rs4 hw => ⟨by rw [hw vs hv]; exact wipe_wipe σ vs, ?_⟩
    refine ⟨m2, ρ3, h2, _, rs4, rh3, q3, fun b h5 m5 H5 s5 rh5 q5 => ?_⟩
    have s25 : Step m2 H2 m5 H5 := st.trans s5
    have po5 : p ∈ m5.o := by rw [s25.same]; exact po
    have ep5 : H5 p = some (.lst us) := (s25.rsv p po).trans ep
    cases b with
    | false => exact ⟨m5, h5, acc, us, s25.same.trans eo, s2.trans (s25.hide eo (fun z => rh5.dj p z po5) no), mv2.trans s25.mv, ep5, rh5, rs2.step s25, ra.step s25, q5⟩
    | true =>
      refine ⟨m5, ρ3, h5, _, rs4.step s5, rh5, q5, fun it1 h6 m6 H6 J1 s6 rh6 ⟨G1, Y1, wk1, hG1, hY1⟩ q6 => ?_⟩
      have s26 : Step m2 H2 m6 H6 := s25.trans s6
      have po6 : p ∈ m6.o := by rw [s26.same]; exact po
      have eo6 : m6.o = p :: m1.o := s26.same.trans eo
      refine loop_it wk1 (fun j H7 => ∃ (m7 : Lay) (h7 : DH) (acc : List D) (us : List V), m7.o = p :: m1.o ∧ Step m1 H1 ⟨m7.m, m1.o⟩ H7 ∧ Mv m1 H1 m7 H7 ∧ Mv m6 H6 m7 H7 ∧ H7 p = some (.lst us) ∧ RelH X.K m7 H7 h7 ∧ RelS X.K m7 H7 (L2.wipe σ4 vs1) (wipeD ρ3 vs1) ∧ RelS X.K m7 H7 (L2.wipe σ vs) (wipeD ρ vs) ∧ RelDs X.K m7 H7 acc us ∧
          lcGo T1 t1 e it1.ok (wipeD ρ3 vs1) (fun acc' h3 => lcGo2 T t wi1 T1 t1 e vs1 it.ok (wipeD ρ vs) (fun acc h2 => k (.lst acc) h2) (it.its.drop (i + 1)) acc' h3) (it1.its.drop j) acc h7)
        ⟨m6, h6, acc, us, eo6, s2.trans (s26.hide eo (fun z => rh6.dj p z po6) no), mv2.trans s26.mv, Mv.refl m6 H6, (s26.rsv p po).trans ep, rh6, ((rs4.step s5).step s6).wipe vs1, rs2.step s26, ra.step s26, by simpa using q6⟩ ?_ ?_ ?_
      · rintro j H7 hj ⟨m7, h7, acc, us, eo7, s7, mv7, mv67, ep7, rh7, rs7, rs7', ra7, q7⟩
        refine hG1 m7 H7 h7 mv67 rh7 ?_
        cases hd : it1.its.drop j <;> (rw [hd] at q7; exact q7.1)
      · rintro j x H7 H8 hj ⟨m7, h7, acc, us, eo7, s7, mv7, mv67, ep7, rh7, rs7, rs7', ra7, q7⟩ y7
        have hd : it1.its.drop j = it1.its[j] :: it1.its.drop (j + 1) := List.drop_eq_getElem_cons hj
        rw [hd] at q7
        obtain ⟨ok7, ρ8, e8, q8⟩ := q7
        obtain ⟨d, ed, st7, rh8, rd⟩ := hY1 j m7 H7 x H8 h7 mv67 rh7 ok7 y7
        have e4 : d = it1.its[j] := by simpa [hj] using ed.symm
        subst e4
        have po7 : p ∈ m7.o := by rw [eo7]; exact List.mem_cons_self
        refine tg_ok T1 rd (rs7.step st7) e8 fun σ9 rs9 hw1 => ⟨by rw [hw1 vs1 hv1]; exact wipe_wipe σ4 vs1, ?_⟩
        refine ⟨m7, ρ8, h7, _, rs9, rh8, q8, fun b h10 m10 H10 s10 rh10 q10 => ?_⟩
        have s710 : Step m7 H7 m10 H10 := st7.trans s10
        have po10 : p ∈ m10.o := by rw [s710.same]; exact po7
        have ep10 : H10 p = some (.lst us) := (s710.rsv p po7).trans ep7
        cases b with
        | false => exact ⟨m10, h10, acc, us, s710.same.trans eo7, s7.trans (s710.hide eo7 (fun z => rh10.dj p z po10) no), mv7.trans s710.mv, mv67.trans s710.mv, ep10, rh10, rs7.step s710, rs7'.step s710, ra7.step s710, q10⟩
        | true =>
          refine ⟨m10, ρ8, h10, _, rs9.step s10, rh10, q10, fun dy h11 v m11 H11 s11 rh11 ry ⟨hz, q11⟩ => ?_⟩
          have s711 : Step m7 H7 m11 H11 := s710.trans s11
          have po11 : p ∈ m11.o := by rw [s711.same]; exact po7
          have ra11 : RelDs X.K m11 H11 acc us := ra7.step s711
          have sO : Step m1 H1 ⟨m11.m, m1.o⟩ H11 := s7.trans (s711.hide eo7 (fun z => rh11.dj p z po11) no)
          have mO := mv7.trans s711.mv
          have m6O := mv67.trans s711.mv
          have as : Mv m11 H11 m11 (L2.upd H11 p (.lst (us ++ [v]))) := Mv.aside _ po11
          refine ⟨us, (s711.rsv p po7).trans ep7, by rw [← ra11.length]; exact hz, m11, h11, acc ++ [dy], us ++ [v], s711.same.trans eo7, ⟨⟨sO.mv.pre, sO.mv.new, fun a u n ea => ?_⟩, rfl, fun a ha => ?_⟩, ⟨mO.pre, mO.new, fun a u n ea => ?_⟩, m6O.trans as, upd_same, rh11.aside _ po11, (rs7.step s711).mv as, (rs7'.step s711).mv as, (ra11.snoc ry).mv as, q11⟩
          · rw [upd_ne (ne_of_none ea hp)]; exact sO.mv.keep a u n ea
          · rw [upd_ne (fun (z : a = p) => no (by rw [← z]; exact ha))]; exact sO.rsv a ha
          · rw [upd_ne (ne_of_none ea hp)]; exact mO.keep a u n ea
      · rintro H7 ⟨m7, h7, acc, us, eo7, s7, mv7, mv67, ep7, rh7, rs7, rs7', ra7, q7⟩
        rw [List.drop_length] at q7
        exact ⟨m7, h7, acc, us, eo7, s7, mv7, ep7, rh7, rs7', ra7, q7.2⟩
  · rintro H2 ⟨m2, h2, acc, us, eo, s2, mv2, ep, rh2, rs2, ra, q2⟩
    rw [List.drop_length] at q2
    unfold lcGo2 at q2
    have sub2 : ∀ a ∈ m1.o, a ∈ m2.o := fun a ha => by rw [eo]; exact List.mem_cons_of_mem _ ha
    refine f (.lst acc) h2 (.ref p) ⟨m2.m, m1.o⟩ H2 (s1.trans s2) (rh2.back sub2) ?_ q2.2
    unfold RelD
    refine ⟨p, us, rfl, ⟨fun z => ?_, ep⟩, ra.mv (Mv.back sub2)⟩
    rcases z with z | z
    · exact rh2.dj p z (by rw [eo]; exact List.mem_cons_self)
    · exact np (.inr z)
theorem de_lc2 {tg iter tg1 iter1 elt : Expr} {ifs ifs1 : List Expr} {scope : Scope} {own : List (Str × Nat)} {vs1 : List Nat} {pos : Pos} {wi wi1 : WI} {T T1 : Tg} {t t1 : WB} {e : W1} (hc : X.calm = true) (hN : X.N.Nodup) (hi : DI X tg iter wi) (ok : BlkOk X.N X.env.scope scope own) (hv : ∀ i ∈ tgS T, i ∈ own.map (·.2)) (hv1 : ∀ i ∈ tgS T1, i ∈ vs1) (hvv : ∀ i ∈ vs1, i ∈ own.map (·.2))
    (hg : ∀ (s : Shared) (H : Hp) (C : Addr) (cl : List (Str × Addr)) (fp : List Addr), PG (X.blk s H scope (compEnvC scope cl C X.env) fp) tg (tgG X.K T))
    (ht : ∀ (s : Shared) (H : Hp) (C : Addr) (cl : List (Str × Addr)) (fp : List Addr), DTs (X.blk s H scope (compEnvC scope cl C X.env) fp) ifs t)
    (hi1 : ∀ (s : Shared) (H : Hp) (C : Addr) (cl : List (Str × Addr)) (fp : List Addr), DI (X.blk s H scope (compEnvC scope cl C X.env) fp) tg1 iter1 wi1)
    (hg1 : ∀ (s : Shared) (H : Hp) (C : Addr) (cl : List (Str × Addr)) (fp : List Addr), PG (X.blk s H scope (compEnvC scope cl C X.env) fp) tg1 (tgG X.K T1))
    (ht1 : ∀ (s : Shared) (H : Hp) (C : Addr) (cl : List (Str × Addr)) (fp : List Addr), DTs (X.blk s H scope (compEnvC scope cl C X.env) fp) ifs1 t1)
    (he : ∀ (s : Shared) (H : Hp) (C : Addr) (cl : List (Str × Addr)) (fp : List Addr), DE (X.blk s H scope (compEnvC scope cl C X.env) fp) elt e) (hs : ∀ x, foldedSetIterable iter X.env x = pure x := by intro _; rfl) (hs1 : ∀ env x, foldedSetIterable iter1 env x = pure x := by intro _ _; rfl) :
    DE X (.ListComp elt [⟨tg, iter, ifs, 0⟩, ⟨tg1, iter1, ifs1, 0⟩] scope pos) (wLc2 wi T t wi1 T1 t1 e (own.map (·.2)) vs1) :=
  PE.imp (pe_lc2 (wi1 := tDI X.K wi1) (tt := tDB X.K t) (tt1 := tDB X.K t1) (te := tD X.K e) hc hN hi ok hvv hg ht hi1 hg1 ht1 he hs hs1) fun σ H Q q => lc2_all hv hv1 q
end
end Vf

namespace Vf
open PySem PySem.Spec PyProof.Rows L2
open PySem.W (alike alikeAll dataLt AllAlike Sortable dataKind EachIs sortVals keyToks)
/-! ### order of alike data -/
def dLt (x y : D) : Bool := dataLt (toPy x) (toPy y)
def dLe (x y : D) : Bool := !dLt y x
def OrdOk (x : D) : Prop := noRef x = true ∧ toPy x ≠ .none ∧ (toPy x).depth ≤ 64
section
variable {X : Cx}
def wLtD : WO2 := fun x y h k => OrdOk x ∧ OrdOk y ∧ alike (toPy x) (toPy y) = true ∧ k (.bl (dLt x y)) h
theorem op2_ltD {n : Nat} (hr : Room n X.A) : Op2 X (compareOp .Lt) wLtD := by
  rintro pins s σ H x y v u Q I rx ry ⟨m, h, dx, dy, k, rh, r1, r2, ⟨⟨n1, z1, d1⟩, ⟨n2, z2, d2⟩, al, w⟩, f⟩
  obtain ⟨as, q1⟩ := Dp.reads I _ x v (r1.dp n1) rx
  obtain ⟨bs, q2⟩ := Dp.reads I _ y u (r2.dp n2) ry
  have hu := hr.units
  exact PySem.W.rcLt_alike _ _ X.A s v u as bs q1 q2 al z1 (by have : min (toPy dx).depth (toPy dy).depth ≤ 64 := Nat.le_trans (Nat.min_le_left _ _) d1; omega) X.prog X.w X.xe _ ⟨.bl _, H, I, rfl, f.now rh (.blI _) w⟩
def wLtA : WO2 := fun x y h k => wOrd (fun i j => decide (i < j)) (fun a b => decide (a < b)) x y h k ∨ wLtD x y h k
theorem op2_ltA {n : Nat} (hr : Room n X.A) : Op2 X (compareOp .Lt) wLtA := by
  rintro pins s σ H x y v u Q I rx ry ⟨m, h, dx, dy, k, rh, r1, r2, w | w, f⟩
  · exact op2_lt pins s σ H x y v u Q I rx ry ⟨m, h, dx, dy, k, rh, r1, r2, w, f⟩
  · exact op2_ltD hr pins s σ H x y v u Q I rx ry ⟨m, h, dx, dy, k, rh, r1, r2, w, f⟩
/-! ### sorted -/
def srtD (xs : List D) : List D := xs.mergeSort dLe
structure SrtOk (xs : List D) : Prop where
  it : ∀ x ∈ xs, noRef x = true ∧ (toPy x).depth ≤ 64
  al : AllAlike (xs.map toPy)
  so : Sortable (xs.map toPy)
theorem each_of {K : PySem.W.Frag} {m : Lay} {H : Hp} : ∀ {ds : List D} {vs : List V} {us : List Value}, RelDs K m H ds vs → Vals vs us → EachIs (fun u d => ∃ v, RelV v u ∧ RelD K m H d v) us ds
  | [], vs, us, r, q => by unfold RelDs at r; subst r; cases q; exact .nil
  | d :: ds, vs, us, r, q => by
    unfold RelDs at r
    obtain ⟨v, t, rfl, h1, h2⟩ := r
    cases q with
    | cons a b => exact .cons ⟨v, a, h1⟩ (each_of h2 b)
theorem of_each {K : PySem.W.Frag} {m : Lay} {H : Hp} : ∀ {ds : List D} {us : List Value}, EachIs (fun u d => ∃ v, RelV v u ∧ RelD K m H d v) us ds → ∃ vs, Vals vs us ∧ RelDs K m H ds vs
  | [], us, h => by cases h; exact ⟨[], .nil, by unfold RelDs; rfl⟩
  | d :: ds, us, h => by
    cases h with
    | cons a b =>
      obtain ⟨v, h1, h2⟩ := a
      obtain ⟨vs, q, r⟩ := of_each b
      exact ⟨v :: vs, .cons h1 q, by unfold RelDs; exact ⟨v, vs, rfl, h2, r⟩⟩
def wSortedD : WOL := fun ds h k => ∃ xs : List D, (ds = [.lst xs] ∨ ∃ n, ds = [.ref n] ∧ h[n]? = some (.lst xs)) ∧ SrtOk xs ∧ k (.lst (srtD xs)) h
theorem sortedD_at {pins : List (Addr × Obj)} {s : Shared} {σ : L2.St} {H : Hp} {Q : VK} {m : Lay} {h : DH} {k : K1} {a : Addr} {xs : List D} {vs : List V} {n : Nat} (hr : Room n X.A) (I : Inv X pins σ H s) (rh : RelH X.K m H h) (hq : SqL X.K H a vs) (rd : RelDs X.K m H xs vs) (so : SrtOk xs) (q : k (.lst (srtD xs)) h) (f : Fol X.K m H k Q) :
    wpAny (model X.prog X.w) X.A (call (.builtin "sorted") [.ref a]) (EP X pins σ Q) X.xe s := by
  obtain ⟨its, rv, pl, hz⟩ := I.list hq
  have hl : its.length = vs.length := rv.length.symm
  have hu := hr.un
  have e1 : EachIs (fun u d => ∃ v, RelV v u ∧ RelD X.K m H d v) its xs := each_of rd rv
  have old : ∀ b o, s.heap.get? b = some o → (PySem.W.sortingHeap (PySem.W.copyHeap s.heap its) (s.heap.objs.size + 1) its).get? b = some o := fun b o e => PySem.W.sorting_copy_old e
  have rds : ∀ u d, d ∈ xs → (∃ v, RelV v u ∧ RelD X.K m H d v) → ∃ as, Reads (PySem.W.sortingHeap (PySem.W.copyHeap s.heap its) (s.heap.objs.size + 1) its) u (toPy d) as := fun u d hd ⟨v, h1, h2⟩ => by
    obtain ⟨as, r⟩ := Dp.reads I _ v u (h2.dp (so.it d hd).1) h1
    exact ⟨as, PySem.W.reads_keeps old r⟩
  have e2 : EachIs (fun u d => ∃ as, Reads (PySem.W.sortingHeap (PySem.W.copyHeap s.heap its) (s.heap.objs.size + 1) its) u d as) its (xs.map toPy) := by
    have : ∀ {us : List Value} {ds : List D}, (∀ d ∈ ds, d ∈ xs) → EachIs (fun u d => ∃ v, RelV v u ∧ RelD X.K m H d v) us ds → EachIs (fun u d => ∃ as, Reads (PySem.W.sortingHeap (PySem.W.copyHeap s.heap its) (s.heap.objs.size + 1) its) u d as) us (ds.map toPy) := by
      intro us ds hs e
      induction e with
      | nil => exact .nil
      | cons a b ih => exact .cons (rds _ _ (hs _ List.mem_cons_self) a) (ih fun d hd => hs d (List.mem_cons_of_mem _ hd))
    exact this (fun d hd => hd) e1
  have S := PySem.W.SortsAt.data (prog := X.prog) (w := X.w) (A := X.A.in1.in1) (s := { s with heap := PySem.W.sortingHeap (PySem.W.copyHeap s.heap its) (s.heap.objs.size + 1) its }) e2 so.al so.so (fun d hd => by
    obtain ⟨x, hx, rfl⟩ := List.mem_map.mp hd
    have := (so.it x hx).2
    show X.A.units + 1 + 1 + _ < _
    omega)
  refine PySem.W.sorted_vals pl.isList S (by rw [hl]; exact hz) ?_
  have e3 : EachIs (fun u d => (dataKind (PySem.W.sortingHeap (PySem.W.copyHeap s.heap its) (s.heap.objs.size + 1) its) (xs.map toPy)).keyOf u = some (keyToks (toPy d))) its xs := by
    have : ∀ {us : List Value} {ds : List D}, (∀ d ∈ ds, d ∈ xs) → EachIs (fun u d => ∃ v, RelV v u ∧ RelD X.K m H d v) us ds → EachIs (fun u d => (dataKind (PySem.W.sortingHeap (PySem.W.copyHeap s.heap its) (s.heap.objs.size + 1) its) (xs.map toPy)).keyOf u = some (keyToks (toPy d))) us ds := by
      intro us ds hs e
      induction e with
      | nil => exact .nil
      | cons a b ih =>
        obtain ⟨as, r⟩ := rds _ _ (hs _ List.mem_cons_self) a
        exact .cons (PySem.W.dataKind_some so.al (List.mem_map.mpr ⟨_, hs _ List.mem_cons_self, rfl⟩) r) (ih fun d hd => hs d (List.mem_cons_of_mem _ hd))
    exact this (fun d hd => hd) e1
  have e4 := PySem.W.sortVals_each (κ := dataKind (PySem.W.sortingHeap (PySem.W.copyHeap s.heap its) (s.heap.objs.size + 1) its) (xs.map toPy)) (rev := false) (fun d : D => keyToks (toPy d)) e1 e3
  have e5 : xs.mergeSort (PySem.W.sortLe (dataKind (PySem.W.sortingHeap (PySem.W.copyHeap s.heap its) (s.heap.objs.size + 1) its) (xs.map toPy)).toKeyOrd false fun d : D => keyToks (toPy d)) = srtD xs := rfl
  rw [e5] at e4
  obtain ⟨zs, q1, q2⟩ := of_each e4
  have lz : zs.length ≤ sizeLine := by
    rw [← q2.length]
    unfold srtD
    rw [List.length_mergeSort, rd.length]; exact hz
  obtain ⟨e, he⟩ := sortedAll_at s.heap its (sortVals (dataKind (PySem.W.sortingHeap (PySem.W.copyHeap s.heap its) (s.heap.objs.size + 1) its) (xs.map toPy)) false its its).toArray
  have hn : H (s.heap.objs.size + 1) = none := I.hok.fresh (Nat.le_succ _)
  refine ⟨.ref (s.heap.objs.size + 1), L2.upd H (s.heap.objs.size + 1) (.lst zs), I.laid (t' := s.toks) (fun b o hb => sortedAll_old hb) (Nat.le_succ _) ⟨lz, _, e, q1, he⟩, rfl, f.new rh hn (.lstNew rh hn q2) q⟩
theorem ol_sortedD {n : Nat} (hr : Room n X.A) : OpL X (.builtin "sorted") wSortedD := by
  rintro pins s σ H vs us Q I r ⟨m, h, ds, k, rh, rd, ⟨xs, hd, so, q⟩, f⟩
  rcases hd with rfl | ⟨i, rfl, hi⟩
  · obtain ⟨v, rfl, r1⟩ := rd.one
    unfold RelD at r1
    obtain ⟨a, ws, rfl, ta, ra⟩ := r1
    rw [Vals.ref1 r]
    exact sortedD_at hr I rh ta.sq ra so q f
  · obtain ⟨v, rfl, r1⟩ := rd.one
    unfold RelD at r1
    obtain ⟨a, rfl, ha⟩ := r1
    obtain ⟨b, eb, ws, ev, ra⟩ := rh.ob i _ hi
    rw [ha] at eb; cases eb
    rw [Vals.ref1 r]
    exact sortedD_at hr I rh (SqL.of ev) ra so q f
end
end Vf

namespace Vf
open PySem PySem.Spec PyProof.Rows L2
/-! ### a dict of the module, texts to tuples of texts -/
structure KTab (K : PySem.W.Frag) (w : World) (mg : Str → Option Value) (x : Str) (ks : List Str) (wss : List (List Str)) : Prop where
  ex : ∃ d es n, mg x = some (.ref d) ∧ KDict K w d es n ∧ ∀ (i : Nat) (z : Str) (ws : List Str), ks[i]? = some z → wss[i]? = some ws → ∃ a, PySem.W.nsIn K d z = some (some (.ref a)) ∧ ∀ H, SqT K H a (ws.map V.str)
section
variable {X : Cx}
def wKIx (ks : List Str) (wss : List (List Str)) (wi : W1) : W1 := fun ρ h k => wi ρ h fun y h1 => ∃ (i : Nat) (z : Str) (ws : List Str), y = .str z ∧ ks[i]? = some z ∧ wss[i]? = some ws ∧ k (txs ws) h1
theorem de_kix {w : World} {x : Str} {ks : List Str} {wss : List (List Str)} {i : Expr} {wi : W1} {p pos : Pos} (T : KTab X.K w X.mg x ks wss) (hw : X.w = w) (hi : DE X i wi) (hg : Gl X x := by rfl) (hd : (x == ("__debug__" : Str)) = false := by decide) (hs : NoSl i := by exact fun _ _ => rfl) : DE X (.Subscript (.Name x p) i pos) (wKIx ks wss wi) := by
  subst hw
  obtain ⟨d, es, n, hm, D, hk⟩ := T.ex
  refine ⟨fun pins s σ H Q I ⟨m, ρ, h, k, rs, rh, q, c⟩ => ?_⟩
  refine subD_of PySem.F.slot_dict_getitem.lookup hs (thn ((C8.pe_gc (X := X) (v := .ref d) hg ⟨_, hm, rfl⟩ hd).run pins s σ H (fun v H1 => v = .ref d ∧ H1 = H) I ⟨rfl, rfl⟩) fun u s1 ⟨v, H1, I1, rv, e1, e2⟩ => ?_)
  subst e1 e2
  cases (show u = Value.ref d from rv)
  refine thn (hi.run pins s1 σ H1 (fun y H2 => ∃ z a, y = .str z ∧ PySem.W.nsIn X.K d z = some (some (.ref a)) ∧ Q (.ref a) H2) I1 ⟨m, ρ, h, _, rs, rh, q, fun y h1 v m1 H2 s1 rh1 ry ⟨i, z, ws, ey, e1, e2, q1⟩ => ?_⟩) fun iv s2 ⟨y, H2, I2, ry, z, a, ey, en, q2⟩ => ?_
  · subst ey
    obtain ⟨a, ea, sq⟩ := hk i z ws e1 e2
    unfold RelD at ry
    refine ⟨z, a, ry, ea, c (txs ws) h1 (.ref a) m1 H2 s1 rh1 ?_ q1⟩
    unfold txs RelD
    exact ⟨a, ws.map V.str, rfl, .inr sq, strs_rel ws⟩
  · subst ey
    exact ⟨kd_type D I2, op_item_kd D pins s2 σ H2 (.ref d) (.str z) _ iv Q I2 rfl ry ⟨z, .ref a, .ref a, rfl, rfl, en, rfl, q2⟩⟩
end
def lcScope : Expr → Scope
  | .ListComp _ _ sc _ => sc
  | _ => ⟨.function, [], false, false, []⟩
def retE : Stmt → Expr
  | .Return (some e) _ => e
  | _ => .Constant .none 0 ⟨0, 0, 0, 0⟩
/-! ### steps -/
abbrev Stp := Str × Str
def stepD (s : Stp) : D := .tup [.str s.1, .str s.2]
theorem stepD_inj {a b : Stp} (h : stepD a = stepD b) : a = b := by
  obtain ⟨a1, a2⟩ := a
  obtain ⟨b1, b2⟩ := b
  have h := D.tup.inj h
  simp only [List.cons.injEq, and_true] at h
  rw [D.str.inj h.1, D.str.inj h.2]
theorem stepD_pln (s : Stp) : pln (stepD s) = true := pln_tup (plns_cons (pln_str _) (plns_cons (pln_str _) plns_nil))
def stpsD (l : List Stp) : D := .tup (l.map stepD)
/-- a step's texts are small -/
def okStp (s : Stp) : Prop := nameOk s.1 ∧ nameOk s.2
theorem okStp.sm {s : Stp} (h : okStp s) : Sm 1 18 (stepD s) := (Sm.name h.1).two (Sm.name h.2)
theorem stps_sm {l : List Stp} (h : ∀ s ∈ l, okStp s) {n : Nat} (hl : l.length ≤ n) : Sm 2 (19 * n) (stpsD l) := by
  refine (Sms.tup (Sms.of (dp := 1) (wt := 18) fun d hd => ?_)).mono (Nat.le_refl _) ?_
  · obtain ⟨s, hs, rfl⟩ := List.mem_map.mp hd
    exact (h s hs).sm
  · rw [List.length_map]; exact Nat.mul_le_mul_left 19 hl
def sortS (l : List Stp) : List Stp := l.mergeSort fun a b => dLe (stepD a) (stepD b)
theorem srtD_steps (l : List Stp) : srtD (l.map stepD) = (sortS l).map stepD := (PySem.W.sort_maps stepD fun _ _ _ _ => rfl).symm
theorem sortS_perm (l : List Stp) : (sortS l).Perm l := List.mergeSort_perm _ _
open PySem.W (alike alikeAll dataLt AllAlike Sortable) in
theorem steps_srtOk (l : List Stp) : SrtOk (l.map stepD) := by
  refine ⟨fun x hx => ?_, fun d hd d' hd' => ?_, .inl fun d hd => ?_⟩
  · obtain ⟨s, _, rfl⟩ := List.mem_map.mp hx
    refine ⟨rfl, ?_⟩
    show PyData.depth (.tuple [.str s.1, .str s.2]) ≤ 64
    simp [PyData.depth, PyData.depthAll]
  · rw [List.map_map] at hd hd'
    obtain ⟨s, _, rfl⟩ := List.mem_map.mp hd
    obtain ⟨s', _, rfl⟩ := List.mem_map.mp hd'
    rfl
  · rw [List.map_map] at hd
    obtain ⟨s, _, rfl⟩ := List.mem_map.mp hd
    exact ⟨_, _, rfl⟩
theorem stepD_ordOk (s : Stp) : OrdOk (stepD s) := by
  refine ⟨rfl, fun h => (nomatch h), ?_⟩
  show PyData.depth (.tuple [.str s.1, .str s.2]) ≤ 64
  simp [PyData.depth, PyData.depthAll]
/-- a step is less -/
def ltS (a b : Stp) : Bool := dLt (stepD a) (stepD b)
def AscS (l : List Stp) : Prop := l.Pairwise fun a b => ltS a b = true
theorem ltS_total {a b : Stp} (h1 : ltS a b = false) (h2 : ltS b a = false) : a = b := by
  have e : PySem.W.keyToks (toPy (stepD a)) = PySem.W.keyToks (toPy (stepD b)) := lex_total (O := itemOrd) _ _ h1 h2
  obtain ⟨a1, a2⟩ := a
  obtain ⟨b1, b2⟩ := b
  have e2 : ([Sum.inl 1, Sum.inr a1.cps.toList, Sum.inl 1, Sum.inr a2.cps.toList, Sum.inl 0] : List (Int ⊕ List Nat)) = [Sum.inl 1, Sum.inr b1.cps.toList, Sum.inl 1, Sum.inr b2.cps.toList, Sum.inl 0] := by
    simpa [stepD, toPy, toPys, PySem.W.keyToks, PySem.W.keyToksAll] using e
  simp only [List.cons.injEq, Sum.inr.injEq, true_and, and_true] at e2
  rw [str_ext e2.1, str_ext e2.2]
theorem ltS_irr (a : Stp) : ltS a a = false := lex_irrefl (O := itemOrd) _
theorem ltS_tr {a b c : Stp} (h1 : ltS a b = true) (h2 : ltS b c = true) : ltS a c = true := lex_trans (O := itemOrd) _ _ _ h1 h2
theorem leS_total : PySem.W.TotalLe (fun a b : Stp => dLe (stepD a) (stepD b)) := PySem.W.sortLe_total (listOrd itemOrd) false fun s : Stp => PySem.W.keyToks (toPy (stepD s))
theorem sortS_asc {l : List Stp} (nd : l.Nodup) : AscS (sortS l) := by
  have h1 := PySem.W.sort_pairwise leS_total l
  have h2 : (sortS l).Nodup := (sortS_perm l).nodup_iff.mpr nd
  unfold AscS
  have h3 : (sortS l).Pairwise fun a b => dLe (stepD a) (stepD b) = true := h1
  refine (List.Pairwise.and h3 h2).imp fun {a b} h => ?_
  obtain ⟨hle, hne⟩ := h
  have h4 : ltS b a = false := by
    have : (!dLt (stepD b) (stepD a)) = true := hle
    unfold ltS
    simpa using this
  cases e : ltS a b with
  | true => rfl
  | false => exact absurd (ltS_total e h4) hne
theorem AscS.nodup {l : List Stp} (h : AscS l) : l.Nodup := h.imp fun {a b} l e => by
  rw [e, ltS_irr] at l; cases l
theorem AscS.sub {l l' : List Stp} (h : AscS l) (s : l'.Sublist l) : AscS l' := List.Pairwise.sublist s h
theorem ascS_ext : ∀ {xs ys : List Stp}, AscS xs → AscS ys → (∀ x, x ∈ xs ↔ x ∈ ys) → xs = ys
  | [], [], _, _, _ => rfl
  | [], y :: ys, _, _, h => absurd ((h y).mpr List.mem_cons_self) (by simp)
  | x :: xs, [], _, _, h => absurd ((h x).mp List.mem_cons_self) (by simp)
  | x :: xs, y :: ys, hx, hy, h => by
    have hx' := List.pairwise_cons.mp hx
    have hy' := List.pairwise_cons.mp hy
    have e : x = y := by
      rcases List.mem_cons.mp ((h x).mp List.mem_cons_self) with e | m
      · exact e
      · rcases List.mem_cons.mp ((h y).mpr List.mem_cons_self) with e | m'
        · exact e.symm
        · have a := hy'.1 x m
          have b := hx'.1 y m'
          have c := ltS_tr a b
          rw [ltS_irr] at c; cases c
    subst e
    refine congrArg (x :: ·) (ascS_ext hx'.2 hy'.2 fun z => ?_)
    have hz := h z
    constructor
    · intro m
      rcases List.mem_cons.mp (hz.mp (List.mem_cons_of_mem _ m)) with e | m'
      · subst e
        have := hx'.1 z m
        rw [ltS_irr] at this; cases this
      · exact m'
    · intro m
      rcases List.mem_cons.mp (hz.mpr (List.mem_cons_of_mem _ m)) with e | m'
      · subst e
        have := hy'.1 z m
        rw [ltS_irr] at this; cases this
      · exact m'
end Vf

namespace Vf
open PySem PySem.Spec PyProof.Rows L2
/-! ### two clauses, nothing changes -/
theorem lc2_pure {i j : Nat} {wi1 : WI} {e : W1} {vs1 : List Nat} {ok : DH → Prop} {ρ : Rho} {fin : List D → DH → Prop} {h : DH} {its1 : D → List D} {g : D → D → D} (hok : ok h) : ∀ {xs acc : List D},
    (∀ x ∈ xs, ∀ K : DIt → DH → Prop, K ⟨its1 x, fun _ => True⟩ h → wi1 (ρ.set i (some x)) h K) → (∀ x ∈ xs, ∀ y ∈ its1 x, ∀ k : K1, k (g x y) h → e ((wipeD (ρ.set i (some x)) vs1).set j (some y)) h k) →
    acc.length + (xs.flatMap fun x => (its1 x).map (g x)).length ≤ sizeLine → fin (acc ++ xs.flatMap fun x => (its1 x).map (g x)) h → lcGo2 (.n i) wYes wi1 (.n j) wYes e vs1 ok ρ fin xs acc h
  | [], acc, _, _, _, hf => ⟨hok, by simpa using hf⟩
  | x :: xs, acc, h1, h2, hz, hf => by
    refine ⟨hok, _, rfl, ?_⟩
    show wi1 (ρ.set i (some x)) h (fun it1 h2 => lcGo (.n j) wYes e it1.ok (wipeD (ρ.set i (some x)) vs1) (fun acc' h3 => lcGo2 (.n i) wYes wi1 (.n j) wYes e vs1 ok ρ fin xs acc' h3) it1.its acc h2)
    refine h1 x List.mem_cons_self _ ?_
    have hz' : acc.length + ((its1 x).length + (xs.flatMap fun x => (its1 x).map (g x)).length) ≤ sizeLine := by simpa using hz
    refine lc_pure (g := g x) trivial (fun y hy k hk => h2 x List.mem_cons_self y hy k hk) (by show acc.length + (its1 x).length ≤ sizeLine; omega) ?_
    refine lc2_pure hok (fun y hy => h1 y (List.mem_cons_of_mem _ hy)) (fun y hy => h2 y (List.mem_cons_of_mem _ hy)) ?_ ?_
    · rw [List.length_append, List.length_map]
      show acc.length + (its1 x).length + _ ≤ _
      omega
    · simpa using hf
/-! ### words, chains, steps -/
def wRead : Str := Str.ofString "read"
def wSwitch : Str := Str.ofString "switch"
def wWiden : Str := Str.ofString "widen"
def wNarrow : Str := Str.ofString "narrow"
def kFree : Str := Str.ofString "free"
def kReader : Str := Str.ofString "reader first"
def kWriter : Str := Str.ofString "writer first"
def kSplit : Str := Str.ofString "split"
def Chan.words (c : Chan) : List (List Str) :=
  if c.kind = kReader then [[wRead, wSwitch]] else if c.kind = kWriter then [[wSwitch, wRead]] else if c.kind = kSplit then [[wWiden, wSwitch, wNarrow]]
  else (if c.old.wr = c.new.wr then [] else [[wSwitch]]) ++ (if c.old.nd = c.new.nd ∧ c.old.kn = c.new.kn then [] else [[wRead]])
theorem Chan.kind4 (c : Chan) : c.kind = kFree ∨ c.kind = kReader ∨ c.kind = kWriter ∨ c.kind = kSplit := by
  unfold Chan.kind
  cases c.ona <;> cases c.nao
  · exact .inr (.inr (.inr rfl))
  · exact .inr (.inl rfl)
  · exact .inr (.inr (.inl rfl))
  · exact .inl rfl
theorem kinds_ne : kFree ≠ kReader ∧ kFree ≠ kWriter ∧ kFree ≠ kSplit ∧ kReader ≠ kWriter ∧ kReader ≠ kSplit ∧ kWriter ≠ kSplit := by decide +kernel
theorem words_ne : wRead ≠ wSwitch ∧ wRead ≠ wWiden ∧ wRead ≠ wNarrow ∧ wSwitch ≠ wWiden ∧ wSwitch ≠ wNarrow ∧ wWiden ≠ wNarrow := by decide +kernel
def Chan.own (c : Chan) (w : Str) : Str := if w = wSwitch then c.snd else c.rcv
def Chan.wl (c : Chan) : List Str := c.words.flatten
theorem Chan.wl_free {c : Chan} (h : c.kind = kFree) : c.words = (if c.old.wr = c.new.wr then [] else [[wSwitch]]) ++ (if c.old.nd = c.new.nd ∧ c.old.kn = c.new.kn then [] else [[wRead]]) := by
  unfold Chan.words
  rw [h, if_neg kinds_ne.1, if_neg kinds_ne.2.1, if_neg kinds_ne.2.2.1]
theorem Chan.words_len (c : Chan) : c.words.length ≤ 2 ∧ ∀ ws ∈ c.words, ws.length ≤ 3 ∧ ∀ w ∈ ws, w = wRead ∨ w = wSwitch ∨ w = wWiden ∨ w = wNarrow := by
  unfold Chan.words
  split
  · exact ⟨by decide, by simp⟩
  split
  · exact ⟨by decide, by simp⟩
  split
  · exact ⟨by decide, by simp⟩
  · split <;> split <;> simp
theorem Chan.wl_nodup (c : Chan) : c.wl.Nodup := by
  unfold Chan.wl Chan.words
  split
  · decide +kernel
  split
  · decide +kernel
  split
  · decide +kernel
  · split <;> split <;> decide +kernel
theorem word_ok {w : Str} (h : w = wRead ∨ w = wSwitch ∨ w = wWiden ∨ w = wNarrow) : nameOk w := by
  rcases h with rfl | rfl | rfl | rfl <;> exact nameOk_of (by decide +kernel)
theorem Chan.wl_mem {c : Chan} {w : Str} (h : w ∈ c.wl) : w = wRead ∨ w = wSwitch ∨ w = wWiden ∨ w = wNarrow := by
  obtain ⟨ws, h1, h2⟩ := List.mem_flatten.mp h
  exact (c.words_len.2 ws h1).2 w h2
theorem Chan.wl_len (c : Chan) : c.wl.length ≤ 3 := by
  unfold Chan.wl Chan.words
  split
  · decide
  split
  · decide
  split
  · decide
  · split <;> split <;> simp
/-- (service, step) -/
def partD (c : Chan) (w : Str) : D := .tup [.str (c.own w), stepD (c.nm, w)]
def chainD (c : Chan) (ws : List Str) : D := .tup (ws.map (partD c))
def chainsD (cs : List Chan) : List D := cs.flatMap fun c => c.words.map (chainD c)
def partsD (cs : List Chan) : List D := cs.flatMap fun c => c.wl.map (partD c)
def stepsL (cs : List Chan) : List Stp := cs.flatMap fun c => c.wl.map fun w => (c.nm, w)
theorem stepsL_mem {cs : List Chan} {s : Stp} : s ∈ stepsL cs ↔ ∃ c ∈ cs, s.1 = c.nm ∧ s.2 ∈ c.wl := by
  unfold stepsL
  rw [List.mem_flatMap]
  constructor
  · rintro ⟨c, hc, hs⟩
    obtain ⟨w, hw, rfl⟩ := List.mem_map.mp hs
    exact ⟨c, hc, rfl, hw⟩
  · rintro ⟨c, hc, e, hw⟩
    exact ⟨c, hc, List.mem_map.mpr ⟨s.2, hw, by rw [← e]⟩⟩
theorem stepsL_len : ∀ (cs : List Chan), (stepsL cs).length ≤ 3 * cs.length
  | [] => by simp [stepsL]
  | c :: cs => by
    have := stepsL_len cs
    have := c.wl_len
    unfold stepsL at *
    rw [List.flatMap_cons, List.length_append, List.length_map, List.length_cons]
    omega
theorem stepsL_nodup {cs : List Chan} (h : (cs.map Chan.nm).Nodup) : (stepsL cs).Nodup := by
  induction cs with
  | nil => simp [stepsL]
  | cons c cs ih =>
    rw [List.map_cons, List.nodup_cons] at h
    have ih := ih h.2
    unfold stepsL at *
    rw [List.flatMap_cons, List.nodup_append]
    refine ⟨?_, ih, ?_⟩
    · exact List.pairwise_map.mpr (c.wl_nodup.imp fun h e => h (Prod.mk.inj e).2)
    · intro s hs t ht e
      obtain ⟨w, hw, rfl⟩ := List.mem_map.mp hs
      obtain ⟨d, hd, h2⟩ := List.mem_flatMap.mp ht
      obtain ⟨v, hv, rfl⟩ := List.mem_map.mp h2
      exact h.1 (List.mem_map.mpr ⟨d, hd, (Prod.mk.inj e).1.symm⟩)
/-- all steps, ascending -/
def allS (cs : List Chan) : List Stp := sortS (stepsL cs)
theorem OkSys.allS_asc {svc : List Str} {cs : List Chan} (h : OkSys svc cs) : AscS (allS cs) := sortS_asc (stepsL_nodup h.casc.nodup)
theorem allS_mem {cs : List Chan} {s : Stp} : s ∈ allS cs ↔ ∃ c ∈ cs, s.1 = c.nm ∧ s.2 ∈ c.wl := by
  unfold allS
  rw [(sortS_perm _).mem_iff]; exact stepsL_mem
theorem OkSys.allS_ok {svc : List Str} {cs : List Chan} (h : OkSys svc cs) : ∀ s ∈ allS cs, okStp s := fun s hs => by
  obtain ⟨c, hc, e, hw⟩ := allS_mem.mp hs
  exact ⟨by rw [e]; exact (h.ch c hc).nm, word_ok (Chan.wl_mem hw)⟩
theorem OkSys.allS_len {svc : List Str} {cs : List Chan} (h : OkSys svc cs) : (allS cs).length ≤ 120 := by
  unfold allS
  rw [(sortS_perm _).length_eq]
  have := stepsL_len cs
  have := h.l40
  omega
theorem chainsD_flat (cs : List Chan) : (cs.flatMap fun c => c.words.map fun ws => ws.map (partD c)).flatten = partsD cs := by
  unfold partsD Chan.wl
  induction cs with
  | nil => rfl
  | cons c cs ih =>
    rw [List.flatMap_cons, List.flatMap_cons, List.flatten_append, ih, ← List.map_flatten]
end Vf

namespace Vf
open PySem PySem.Spec PyProof.Rows L2
/-- filter, then a value of each -/
theorem lc_fm {i : Nat} {t : WB} {e : W1} {p : D → Bool} {g : D → D} {ok : DH → Prop} {ρ : Rho} {fin : List D → DH → Prop} {h : DH} (hok : ok h) : ∀ {its acc : List D},
    (∀ x ∈ its, ∀ k : KB, k (p x) h → t (ρ.set i (some x)) h k) → (∀ x ∈ its, p x = true → ∀ k : K1, k (g x) h → e (ρ.set i (some x)) h k) → acc.length + its.length ≤ sizeLine → fin (acc ++ (its.filter p).map g) h → lcGo (.n i) t e ok ρ fin its acc h
  | [], acc, _, _, _, hf => ⟨hok, by simpa using hf⟩
  | x :: its, acc, ht, he, hz, hf => by
    refine ⟨hok, _, rfl, ht x List.mem_cons_self _ ?_⟩
    cases hp : p x with
    | false =>
      rw [if_neg (by decide)]
      refine lc_fm hok (fun y hy => ht y (List.mem_cons_of_mem _ hy)) (fun y hy => he y (List.mem_cons_of_mem _ hy)) (by simp at hz; omega) ?_
      rw [List.filter_cons, if_neg (by rw [hp]; decide)] at hf; exact hf
    | true =>
      rw [if_pos rfl]
      refine he x List.mem_cons_self hp _ ⟨by simp at hz; omega, lc_fm hok (fun y hy => ht y (List.mem_cons_of_mem _ hy)) (fun y hy => he y (List.mem_cons_of_mem _ hy)) (by simp at hz ⊢; omega) ?_⟩
      rw [List.filter_cons, if_pos hp] at hf
      simpa using hf
theorem lc_fmT {T : Tg} {t : WB} {e : W1} {p : D → Bool} {g : D → D} {ok : DH → Prop} {ρ : Rho} {fin : List D → DH → Prop} {h : DH} (hok : ok h) : ∀ {its acc : List D},
    (∀ x ∈ its, ∃ ρ1, tgD T x ρ = some ρ1 ∧ (∀ k : KB, k (p x) h → t ρ1 h k) ∧ (p x = true → ∀ k : K1, k (g x) h → e ρ1 h k)) → acc.length + its.length ≤ sizeLine → fin (acc ++ (its.filter p).map g) h → lcGo T t e ok ρ fin its acc h
  | [], acc, _, _, hf => ⟨hok, by simpa using hf⟩
  | x :: its, acc, ht, hz, hf => by
    obtain ⟨ρ1, e1, h1, h2⟩ := ht x List.mem_cons_self
    refine ⟨hok, ρ1, e1, h1 _ ?_⟩
    cases hp : p x with
    | false =>
      rw [if_neg (by decide)]
      refine lc_fmT hok (fun y hy => ht y (List.mem_cons_of_mem _ hy)) (by simp at hz; omega) ?_
      rw [List.filter_cons, if_neg (by rw [hp]; decide)] at hf; exact hf
    | true =>
      rw [if_pos rfl]
      refine h2 hp _ ⟨by simp at hz; omega, lc_fmT hok (fun y hy => ht y (List.mem_cons_of_mem _ hy)) (by simp at hz ⊢; omega) ?_⟩
      rw [List.filter_cons, if_pos hp] at hf
      simpa using hf
/-! ### what is written and read -/
structure OkP (p : List Stp) : Prop where
  it : ∀ s ∈ p, okStp s
  len : p.length ≤ 1000
theorem OkP.sm {p : List Stp} (h : OkP p) : Sm 2 19000 (stpsD p) := stps_sm h.it h.len
theorem OkP.sub {p q : List Stp} (h : OkP p) (s : q.Sublist p) : OkP q := ⟨fun x hx => h.it x (s.subset hx), Nat.le_trans s.length_le h.len⟩
theorem inD_steps (s : Stp) (p : List Stp) : inD (stepD s) (p.map stepD) = decide (s ∈ p) := by
  rw [Bool.eq_iff_iff, inD_iff (stepD_pln s) (plns_map fun y _ => stepD_pln y), decide_eq_true_eq, List.mem_map]
  exact ⟨fun ⟨a, h, e⟩ => stepD_inj e ▸ h, fun h => ⟨s, h, rfl⟩⟩
def Chan.wrAt (c : Chan) (p : List Stp) : List Str := if (c.nm, wSwitch) ∈ p then c.new.wr else c.old.wr
open Classical in
noncomputable def unionA (a b : List Str) : List Str := if h : ∃ ks, Asc ks ∧ ∀ x, x ∈ ks ↔ x ∈ a ∨ x ∈ b then h.choose else []
theorem unionA_eq {a b ks : List Str} (h1 : Asc ks) (h2 : ∀ x, x ∈ ks ↔ x ∈ a ∨ x ∈ b) : ks = unionA a b := by
  unfold unionA
  have h : ∃ ks, Asc ks ∧ ∀ x, x ∈ ks ↔ x ∈ a ∨ x ∈ b := ⟨ks, h1, h2⟩
  rw [dif_pos h]
  exact asc_ext h1 h.choose_spec.1 fun x => by rw [h2 x, h.choose_spec.2 x]
def Chan.wideN (c : Chan) : List Str := c.old.nd.filter fun x => decide (x ∈ c.new.nd)
noncomputable def Chan.wideK (c : Chan) : List Str := unionA c.old.kn c.new.kn
noncomputable def Chan.rdAt (c : Chan) (p : List Stp) : List Str × List Str :=
  if (c.nm, wRead) ∈ p ∨ (c.nm, wNarrow) ∈ p then (c.new.nd, c.new.kn) else if (c.nm, wWiden) ∈ p then (c.wideN, c.wideK) else (c.old.nd, c.old.kn)
def rdD (r : List Str × List Str) : D := .tup [txs r.1, txs r.2]
noncomputable def rowD (c : Chan) (p : List Stp) : D := .tup [.str c.nm, txs (c.wrAt p), rdD (c.rdAt p)]
/-- the wide reader's known fields are there -/
def WideOk (c : Chan) : Prop := Asc c.wideK ∧ ∀ x, x ∈ c.wideK ↔ x ∈ c.old.kn ∨ x ∈ c.new.kn
def insA (x : Str) : List Str → List Str
  | [] => [x]
  | y :: ys => if x = y then y :: ys else if x.cps.toList < y.cps.toList then x :: y :: ys else y :: insA x ys
theorem insA_mem (x z : Str) : ∀ ys : List Str, z ∈ insA x ys ↔ z = x ∨ z ∈ ys
  | [] => by simp [insA]
  | y :: ys => by
    unfold insA
    split
    · rename_i e; subst e; simp
    split
    · simp
    · rw [List.mem_cons, insA_mem x z ys, List.mem_cons]
      constructor
      · rintro (h | h | h)
        · exact .inr (.inl h)
        · exact .inl h
        · exact .inr (.inr h)
      · rintro (h | h | h)
        · exact .inr (.inl h)
        · exact .inl h
        · exact .inr (.inr h)
theorem insA_asc (x : Str) : ∀ {ys : List Str}, Asc ys → Asc (insA x ys)
  | [], _ => List.pairwise_singleton _ _
  | y :: ys, h => by
    have h' := List.pairwise_cons.mp h
    unfold insA
    split
    · exact h
    split
    · rename_i hne hlt
      refine List.pairwise_cons.mpr ⟨fun z hz => ?_, h⟩
      rcases List.mem_cons.mp hz with rfl | hz
      · exact hlt
      · exact List.lt_trans hlt (h'.1 z hz)
    · rename_i hne hlt
      refine List.pairwise_cons.mpr ⟨fun z hz => ?_, insA_asc x h'.2⟩
      rcases (insA_mem x z ys).mp hz with rfl | hz
      · exact lt_of_not hlt fun e => hne e.symm
      · exact h'.1 z hz
theorem wideOk (c : Chan) (h : Asc c.new.kn) : WideOk c := by
  have : ∀ l : List Str, Asc (l.foldr insA c.new.kn) ∧ ∀ x, x ∈ l.foldr insA c.new.kn ↔ x ∈ l ∨ x ∈ c.new.kn := by
    intro l
    induction l with
    | nil => exact ⟨h, fun x => by simp⟩
    | cons y l ih =>
      refine ⟨insA_asc y ih.1, fun x => ?_⟩
      rw [List.foldr_cons, insA_mem, ih.2, List.mem_cons, or_assoc]
  have e := unionA_eq (this c.old.kn).1 (this c.old.kn).2
  unfold WideOk Chan.wideK
  rw [← e]
  exact this c.old.kn
theorem OkCh.rdAt_ok {svc : List Str} {c : Chan} (h : OkCh svc c) (p : List Stp) : ((∀ x ∈ (c.rdAt p).1, nameOk x) ∧ (c.rdAt p).1.length ≤ 24) ∧ (∀ x ∈ (c.rdAt p).2, nameOk x) ∧ (c.rdAt p).2.length ≤ 24 := by
  have a1 := h.old.nd.len
  have a2 := h.old.kn.len
  have a3 := h.new.nd.len
  have a4 := h.new.kn.len
  unfold Chan.rdAt
  split
  · exact ⟨⟨h.new.nd.nm, by show c.new.nd.length ≤ 24; omega⟩, h.new.kn.nm, by show c.new.kn.length ≤ 24; omega⟩
  split
  · obtain ⟨w1, w2⟩ := wideOk c h.new.kn.asc
    refine ⟨⟨fun x hx => h.old.nd.nm x (List.mem_filter.mp hx).1, ?_⟩, fun x hx => ((w2 x).mp hx).elim (h.old.kn.nm x) (h.new.kn.nm x), ?_⟩
    · show c.wideN.length ≤ 24
      have : c.wideN.length ≤ c.old.nd.length := List.length_filter_le _ _
      omega
    · show c.wideK.length ≤ 24
      have h1 : c.wideK.length = (distS (c.old.kn ++ c.new.kn)).length := nodup_len _ _ w1.nodup (distS_nodup _) (fun x => by rw [w2 x, mem_distS, List.mem_append])
      have h2 := distS_len (c.old.kn ++ c.new.kn)
      rw [List.length_append] at h2
      omega
  · exact ⟨⟨h.old.nd.nm, by show c.old.nd.length ≤ 24; omega⟩, h.old.kn.nm, by show c.old.kn.length ≤ 24; omega⟩
theorem OkCh.wrAt_ok {svc : List Str} {c : Chan} (h : OkCh svc c) (p : List Stp) : OkF (c.wrAt p) := by
  unfold Chan.wrAt
  split
  · exact h.new.wr
  · exact h.old.wr
theorem OkCh.row_sm {svc : List Str} {c : Chan} (h : OkCh svc c) (p : List Stp) : Sm 3 1000 (rowD c p) := by
  have r := h.rdAt_ok p
  have n1 := (Sm.name h.nm).mono (Nat.zero_le 2) (Nat.le_refl _)
  have n2 := (h.wrAt_ok p).sm.mono (by decide : 1 ≤ 2) (Nat.le_refl _)
  have n3 := (Sm.names r.1.1 r.1.2).two (Sm.names r.2.1 r.2.2)
  exact (Sms.tup (Sms.cons n1 (Sms.cons n2 (Sms.cons n3 (Sms.nil 2 0))))).mono (Nat.le_refl _) (by omega)
theorem OkCh.rdN {svc : List Str} {c : Chan} (h : OkCh svc c) (p : List Stp) : okN (c.rdAt p).1 ∧ okN (c.rdAt p).2 := by
  have r := h.rdAt_ok p
  exact ⟨okN_names (by omega) r.1.1, okN_names (by omega) r.2.1⟩
/-- a message is refused while both versions run -/
def refd4 (r1 r2 : List Str × List Str) (w1 w2 : List Str) : Bool := !(acc r1.1 r1.2 w1 && acc r1.1 r1.2 w2 && acc r2.1 r2.2 w1 && acc r2.1 r2.2 w2)
noncomputable def Chan.refd (c : Chan) (p q : List Stp) : Bool := refd4 (c.rdAt p) (c.rdAt q) (c.wrAt p) (c.wrAt q)
noncomputable def refdL (cs : List Chan) (p q : List Stp) : List Str := (cs.filter fun c => c.refd p q).map Chan.nm
theorem OkSys.okP {svc : List Str} {cs : List Chan} (h : OkSys svc cs) : OkP (allS cs) := ⟨h.allS_ok, Nat.le_trans h.allS_len (by decide)⟩
def fst1 : D → D
  | .tup (x :: _) => x
  | _ => .non
def snd2 : D → D
  | .tup [_, s] => s
  | _ => .non
theorem parts_steps (cs : List Chan) : (partsD cs).map snd2 = (stepsL cs).map stepD := by
  unfold partsD stepsL
  rw [List.map_flatMap, List.map_flatMap]
  refine congrArg (fun f => List.flatMap f cs) (funext fun c => ?_)
  rw [List.map_map, List.map_map]; rfl
theorem parts_mem {cs : List Chan} {x : D} (h : x ∈ partsD cs) : ∃ c ∈ cs, ∃ w ∈ c.wl, x = partD c w := by
  obtain ⟨c, hc, h2⟩ := List.mem_flatMap.mp h
  obtain ⟨w, hw, rfl⟩ := List.mem_map.mp h2
  exact ⟨c, hc, w, hw, rfl⟩
end Vf

namespace Vf
open PySem PySem.Spec PyProof.Rows L2
theorem lc_fmA {α : Type} {f : α → D} {i : Nat} {t : WB} {e : W1} {p : α → Bool} {g : α → D} {ok : DH → Prop} {ρ : Rho} {fin : List D → DH → Prop} {h : DH} (hok : ok h) : ∀ {xs : List α} {acc : List D},
    (∀ a ∈ xs, ∀ k : KB, k (p a) h → t (ρ.set i (some (f a))) h k) → (∀ a ∈ xs, p a = true → ∀ k : K1, k (g a) h → e (ρ.set i (some (f a))) h k) → acc.length + xs.length ≤ sizeLine → fin (acc ++ (xs.filter p).map g) h → lcGo (.n i) t e ok ρ fin (xs.map f) acc h
  | [], acc, _, _, _, hf => ⟨hok, by simpa using hf⟩
  | x :: its, acc, ht, he, hz, hf => by
    rw [List.map_cons]
    refine ⟨hok, _, rfl, ht x List.mem_cons_self _ ?_⟩
    cases hp : p x with
    | false =>
      rw [if_neg (by decide)]
      refine lc_fmA hok (fun y hy => ht y (List.mem_cons_of_mem _ hy)) (fun y hy => he y (List.mem_cons_of_mem _ hy)) (by simp at hz; omega) ?_
      rw [List.filter_cons, if_neg (by rw [hp]; decide)] at hf; exact hf
    | true =>
      rw [if_pos rfl]
      refine he x List.mem_cons_self hp _ ⟨by simp at hz; omega, lc_fmA hok (fun y hy => ht y (List.mem_cons_of_mem _ hy)) (fun y hy => he y (List.mem_cons_of_mem _ hy)) (by simp at hz ⊢; omega) ?_⟩
      rw [List.filter_cons, if_pos hp] at hf
      simpa using hf
/-! ### the steps that a service owns -/
def stepsOf (cs : List Chan) (x : Str) : List Stp := cs.flatMap fun c => (c.wl.filter fun w => decide (c.own w = x)).map fun w => (c.nm, w)
def ownP (x : Str) : D → Bool
  | .tup [.str o, _] => decide (o = x)
  | _ => false
theorem parts_own (cs : List Chan) (x : Str) : ((partsD cs).filter (ownP x)).map snd2 = (stepsOf cs x).map stepD := by
  unfold partsD stepsOf
  rw [List.filter_flatMap, List.map_flatMap, List.map_flatMap]
  refine congrArg (fun f => List.flatMap f cs) (funext fun c => ?_)
  rw [List.filter_map, List.map_map, List.map_map]; rfl
theorem stepsOf_mem {cs : List Chan} {x : Str} {s : Stp} : s ∈ stepsOf cs x ↔ ∃ c ∈ cs, s.1 = c.nm ∧ s.2 ∈ c.wl ∧ c.own s.2 = x := by
  unfold stepsOf
  rw [List.mem_flatMap]
  constructor
  · rintro ⟨c, hc, hs⟩
    obtain ⟨w, hw, rfl⟩ := List.mem_map.mp hs
    have := List.mem_filter.mp hw
    exact ⟨c, hc, rfl, this.1, of_decide_eq_true this.2⟩
  · rintro ⟨c, hc, e, hw, ho⟩
    exact ⟨c, hc, List.mem_map.mpr ⟨s.2, List.mem_filter.mpr ⟨hw, decide_eq_true ho⟩, by rw [← e]⟩⟩
theorem stepsOf_sub (cs : List Chan) (x : Str) : (stepsOf cs x).Sublist (stepsL cs) := by
  unfold stepsOf stepsL
  induction cs with
  | nil => exact List.Sublist.refl _
  | cons c cs ih =>
    rw [List.flatMap_cons, List.flatMap_cons]
    exact (List.filter_sublist.map _).append ih
def ownS (cs : List Chan) (x : Str) : List Stp := sortS (stepsOf cs x)
theorem ownS_mem {cs : List Chan} {x : Str} {s : Stp} : s ∈ ownS cs x ↔ ∃ c ∈ cs, s.1 = c.nm ∧ s.2 ∈ c.wl ∧ c.own s.2 = x := by
  unfold ownS
  rw [(sortS_perm _).mem_iff]; exact stepsOf_mem
theorem OkSys.ownS_asc {svc : List Str} {cs : List Chan} (h : OkSys svc cs) (x : Str) : AscS (ownS cs x) := sortS_asc ((stepsOf_sub cs x).nodup (stepsL_nodup h.casc.nodup))
theorem ownS_sub {cs : List Chan} {x : Str} {s : Stp} (h : s ∈ ownS cs x) : s ∈ allS cs := by
  obtain ⟨c, hc, e, hw, _⟩ := ownS_mem.mp h
  exact allS_mem.mpr ⟨c, hc, e, hw⟩
theorem OkSys.ownS_len {svc : List Str} {cs : List Chan} (h : OkSys svc cs) (x : Str) : (ownS cs x).length ≤ 120 := by
  unfold ownS
  rw [(sortS_perm _).length_eq]
  have := (stepsOf_sub cs x).length_le
  have := stepsL_len cs
  have := h.l40
  omega
theorem OkSys.ownP {svc : List Str} {cs : List Chan} (h : OkSys svc cs) (x : Str) : OkP (ownS cs x) := ⟨fun s hs => h.allS_ok s (ownS_sub hs), Nat.le_trans (h.ownS_len x) (by decide)⟩
/-- steps of another owner do not reach what a channel writes, or reads -/
theorem wrAt_app {svc : List Str} {cs : List Chan} (ho : OkSys svc cs) {c : Chan} (hc : c ∈ cs) {p q : List Stp} {x : Str} (hq : ∀ s ∈ q, s ∈ ownS cs x) (hx : c.snd ≠ x) : c.wrAt (p ++ q) = c.wrAt p := by
  have : (c.nm, wSwitch) ∉ q := fun z => by
    obtain ⟨d, hd, e, _, eo⟩ := ownS_mem.mp (hq _ z)
    have e2 : c = d := ho.uniq hc hd e
    subst e2
    unfold Chan.own at eo
    rw [if_pos rfl] at eo
    exact hx eo
  unfold Chan.wrAt
  have e : ((c.nm, wSwitch) ∈ p ++ q) = ((c.nm, wSwitch) ∈ p) := by
    rw [List.mem_append, eq_iff_iff]
    exact ⟨fun z => z.elim (fun z => z) fun z => absurd z this, .inl⟩
  simp only [e]
theorem rdAt_app {svc : List Str} {cs : List Chan} (ho : OkSys svc cs) {c : Chan} (hc : c ∈ cs) {p q : List Stp} {x : Str} (hq : ∀ s ∈ q, s ∈ ownS cs x) (hx : c.rcv ≠ x) : c.rdAt (p ++ q) = c.rdAt p := by
  have no : ∀ w, w ≠ wSwitch → (c.nm, w) ∉ q := fun w hw z => by
    obtain ⟨d, hd, e, _, eo⟩ := ownS_mem.mp (hq _ z)
    have e2 : c = d := ho.uniq hc hd e
    subst e2
    unfold Chan.own at eo
    rw [if_neg hw] at eo
    exact hx eo
  have wn := words_ne
  have e : ∀ w, w ≠ wSwitch → ((c.nm, w) ∈ p ++ q) = ((c.nm, w) ∈ p) := fun w hw => by
    rw [List.mem_append, eq_iff_iff]
    exact ⟨fun z => z.elim (fun z => z) fun z => absurd z (no w hw), .inl⟩
  unfold Chan.rdAt
  simp only [e wRead wn.1, e wNarrow wn.2.2.2.2.1.symm, e wWiden wn.2.2.2.1.symm]
end Vf

namespace Vf
open PySem PySem.Spec PyProof.Rows L2
theorem three {α : Type} : ∀ {l : List α}, l.length = 3 → ∃ a b c, l = [a, b, c]
  | [], h => by simp at h
  | [_], h => by simp at h
  | [_, _], h => by simp at h
  | [a, b, c], _ => ⟨a, b, c, rfl⟩
  | _ :: _ :: _ :: _ :: _, h => by simp at h
def gRev3 {α : Type} (_ ws : List α) : List α := ws.reverse
theorem kwB_rev3 {K : PySem.W.Frag} {x qual : Str} {st : Stmt} {a b c : Str} (h : ∀ (kV doc pm : Value) (an : Option Addr) (cdv ct : Value) (u v w : Value), bindArgs (PySem.W.fnOf x qual (defArgs st) (defBody st) (defScope st) .none kV doc pm an cdv ct) ⟨[], [(c, u), (b, v), (a, w)]⟩ = pure [(a, w), (b, v), (c, u)]) :
    KwB K x qual st [a, b, c] 0 [c, b, a] gRev3 := by
  refine ⟨fun kV doc pm an cdv ct us ws h1 h2 => ?_, fun {vs zs us ws} r1 r2 h1 h2 => ?_, fun {K m H ds es vs zs} r1 r2 h1 h2 => ?_⟩
  · obtain rfl : us = [] := List.eq_nil_of_length_eq_zero h1
    obtain ⟨u, v, w, rfl⟩ := three (l := ws) h2
    exact h kV doc pm an cdv ct u v w
  · exact Vals.reverse r2
  · obtain ⟨d1, d2, d3, rfl⟩ := three (l := es) h2
    unfold RelDs at r2
    obtain ⟨u, r, rfl, a, r2⟩ := r2
    unfold RelDs at r2
    obtain ⟨v, r, rfl, b, r2⟩ := r2
    unfold RelDs at r2
    obtain ⟨w, r, rfl, c, r2⟩ := r2
    unfold RelDs at r2
    subst r2
    show RelDs K m H [d3, d2, d1] [w, v, u]
    unfold RelDs
    refine ⟨w, _, rfl, c, ?_⟩
    unfold RelDs
    refine ⟨v, _, rfl, b, ?_⟩
    unfold RelDs
    refine ⟨u, _, rfl, a, ?_⟩
    unfold RelDs; rfl
end Vf

namespace Vf
open PySem PySem.Spec PyProof.Rows L2
section
variable {X : Cx}
/-- x in a list that changes -/
def wInR (g : Bool → Bool) : WO2 := fun x y h k => ∃ n ys, y = .ref n ∧ h[n]? = some (.lst ys) ∧ isDat x ∧ isDat (.lst ys) ∧ k (.bl (g (inD x ys))) h
theorem op2_inR {n : Nat} (hr : Room n X.A) : Op2 X (compareOp .In) (wInR fun b => b) := by
  rintro pins s σ H x y v u Q I rx ry ⟨m, h, dx, dy, k, rh, r1, r2, ⟨i, ys, e, hi, ⟨n1, s1⟩, ⟨n2, s2⟩, w⟩, f⟩
  subst e
  have hu : X.A.units + 65 < cLine := by have := hr.un; omega
  unfold RelD at r2
  obtain ⟨a, rfl, ha⟩ := r2
  obtain ⟨b, eb, vs, ev, rvs⟩ := rh.ob i _ hi
  rw [ha] at eb; cases eb
  obtain ⟨as, q1⟩ := Dp.reads I _ _ _ (r1.dp n1) rx
  have d2 : Dp X.K H (.ref a) (.list (toPys ys)) := .lst (SqL.of ev) (rvs.dp (by unfold noRef at n2; exact n2))
  obtain ⟨bs, q2⟩ := Dp.reads I _ _ _ d2 ry
  have s2' : SeqAt.shaped (.list (toPys ys)) = true := by unfold toPy at s2; exact s2
  exact SeqAt.in_list_reads q2 q1 (by simpa [PyData.canLay0] using SeqAt.canLay_of_shaped s2') (SeqAt.canLay_of_shaped s1) (room_in_shaped s1 hu) ⟨.bl _, H, I, rfl, by rw [any_toPys]; exact f.now rh (.blI _) w⟩
theorem op2_notinR {n : Nat} (hr : Room n X.A) : Op2 X (compareOp .NotIn) (wInR fun b => !b) := by
  rintro pins s σ H x y v u Q I rx ry ⟨m, h, dx, dy, k, rh, r1, r2, ⟨i, ys, e, hi, ⟨n1, s1⟩, ⟨n2, s2⟩, w⟩, f⟩
  subst e
  have hu : X.A.units + 65 < cLine := by have := hr.un; omega
  unfold RelD at r2
  obtain ⟨a, rfl, ha⟩ := r2
  obtain ⟨b, eb, vs, ev, rvs⟩ := rh.ob i _ hi
  rw [ha] at eb; cases eb
  obtain ⟨as, q1⟩ := Dp.reads I _ _ _ (r1.dp n1) rx
  have d2 : Dp X.K H (.ref a) (.list (toPys ys)) := .lst (SqL.of ev) (rvs.dp (by unfold noRef at n2; exact n2))
  obtain ⟨bs, q2⟩ := Dp.reads I _ _ _ d2 ry
  have s2' : SeqAt.shaped (.list (toPys ys)) = true := by unfold toPy at s2; exact s2
  exact SeqAt.notIn_list_reads q2 q1 (by simpa [PyData.canLay0] using SeqAt.canLay_of_shaped s2') (SeqAt.canLay_of_shaped s1) (room_in_shaped s1 hu) ⟨.bl _, H, I, rfl, by rw [any_toPys]; exact f.now rh (.blI _) w⟩
end
/-- old things stay, new ones may be made -/
structure GR (h h' : DH) : Prop where
  len : h.length ≤ h'.length
  old : ∀ j, j < h.length → h'[j]? = h[j]?
theorem GR.refl (h : DH) : GR h h := ⟨Nat.le_refl _, fun _ _ => rfl⟩
theorem GR.trans {a b c : DH} (x : GR a b) (y : GR b c) : GR a c := ⟨Nat.le_trans x.len y.len, fun j hj => (y.old j (Nat.lt_of_lt_of_le hj x.len)).trans (x.old j hj)⟩
theorem GR.push (h : DH) (o : DO) : GR h (h ++ [o]) := ⟨by simp, fun j hj => List.getElem?_append_left hj⟩
theorem GR.set {h h' : DH} (x : GR h h') {n : Nat} (hn : h.length ≤ n) (o : DO) : GR h (h'.set n o) := ⟨by rw [List.length_set]; exact x.len, fun j hj => by rw [List.getElem?_set_ne (by omega)]; exact x.old j hj⟩
theorem GR.at {h h' : DH} (x : GR h h') {n : Nat} {o : DO} (e : h[n]? = some o) : h'[n]? = some o := by
  rw [x.old n (List.getElem?_eq_some_iff.mp e).1]; exact e
theorem GR.ug {h h' : DH} (x : GR h h') {u : Nat} (hu : Urn h u) : UG u h h' := by
  refine ⟨x.len, fun j _ hj => x.old j hj, ?_⟩
  obtain ⟨a, b, e, r⟩ := hu
  exact ⟨a, b, x.at e, r⟩
/-- what the law reckons: the released service's messages and readers are there twice -/
noncomputable def sentL (c : Chan) (p : List Stp) (o : Str) (q : List Stp) : List (List Str) := c.wrAt p :: (if c.snd = o then [c.wrAt (p ++ q)] else [])
noncomputable def eyesL (c : Chan) (p : List Stp) (o : Str) (q : List Stp) : List (List Str × List Str) := c.rdAt p :: (if c.rcv = o then [c.rdAt (p ++ q)] else [])
noncomputable def lawRef (c : Chan) (p : List Stp) (o : Str) (q : List Stp) : Bool := (eyesL c p o q).any fun r => !(sentL c p o q).all fun w => acc r.1 r.2 w
noncomputable def lawRefL (cs : List Chan) (p : List Stp) (o : Str) (q : List Stp) : List Str := (cs.filter fun c => lawRef c p o q).map Chan.nm
theorem lawRef_eq {svc : List Str} {cs : List Chan} (ho : OkSys svc cs) {c : Chan} (hc : c ∈ cs) {p q : List Stp} {o : Str} (hq : ∀ s ∈ q, s ∈ ownS cs o) : lawRef c p o q = c.refd p (p ++ q) := by
  unfold lawRef Chan.refd refd4 sentL eyesL
  by_cases h1 : c.snd = o
  · by_cases h2 : c.rcv = o
    · rw [if_pos h1, if_pos h2]
      simp only [List.any_cons, List.any_nil, List.all_cons, List.all_nil, Bool.or_false, Bool.and_true]
      cases acc (c.rdAt p).1 (c.rdAt p).2 (c.wrAt p) <;> cases acc (c.rdAt p).1 (c.rdAt p).2 (c.wrAt (p ++ q)) <;> cases acc (c.rdAt (p ++ q)).1 (c.rdAt (p ++ q)).2 (c.wrAt p) <;> cases acc (c.rdAt (p ++ q)).1 (c.rdAt (p ++ q)).2 (c.wrAt (p ++ q)) <;> rfl
    · rw [if_pos h1, if_neg h2, rdAt_app ho hc hq h2]
      simp only [List.any_cons, List.any_nil, List.all_cons, List.all_nil, Bool.or_false, Bool.and_true]
      cases acc (c.rdAt p).1 (c.rdAt p).2 (c.wrAt p) <;> cases acc (c.rdAt p).1 (c.rdAt p).2 (c.wrAt (p ++ q)) <;> rfl
  · by_cases h2 : c.rcv = o
    · rw [if_neg h1, if_pos h2, wrAt_app ho hc hq h1]
      simp only [List.any_cons, List.any_nil, List.all_cons, List.all_nil, Bool.or_false, Bool.and_true]
      cases acc (c.rdAt p).1 (c.rdAt p).2 (c.wrAt p) <;> cases acc (c.rdAt (p ++ q)).1 (c.rdAt (p ++ q)).2 (c.wrAt p) <;> rfl
    · rw [if_neg h1, if_neg h2, wrAt_app ho hc hq h1, rdAt_app ho hc hq h2]
      simp only [List.any_cons, List.any_nil, List.all_cons, List.all_nil, Bool.or_false, Bool.and_true]
      cases acc (c.rdAt p).1 (c.rdAt p).2 (c.wrAt p) <;> rfl
theorem lawRefL_eq {svc : List Str} {cs : List Chan} (ho : OkSys svc cs) {p q : List Stp} {o : Str} (hq : ∀ s ∈ q, s ∈ ownS cs o) : lawRefL cs p o q = refdL cs p (p ++ q) := by
  unfold lawRefL refdL
  congr 1
  exact List.filter_congr fun c hc => lawRef_eq ho hc hq
theorem sl_fmt {f : Fmt} {h : DH} {k : K1} (q : k f.rd h) : wSl f.d (some 1) none h k := q
end Vf

namespace Vf
open PySem PySem.Spec PyProof.Rows L2
section
variable {X : Cx}
/-- {} -/
def wDict0 : W1 := fun _ h k => k (.dic [] []) h
theorem de_dict0 {pos : Pos} : DE X (.Dict [] [] pos) wDict0 := PE.imp pe_dnewK fun σ H Q ⟨m, ρ, h, k, rs, rh, q, c⟩ => fun p hp => by
  have st := Step.new rh (.dK []) hp
  refine c (.dic [] []) h (.ref p) m _ st (rh.new _ hp) ?_ q
  unfold RelD
  exact ⟨p, [], rfl, rh.notin hp, upd_same, rfl, by unfold RelDs; rfl⟩
def wDict0M : W1 := fun _ h k => k (.ref h.length) (h ++ [.dk [] []])
theorem de_dict0M {pos : Pos} : DE X (.Dict [] [] pos) wDict0M := PE.imp pe_dnewK fun σ H Q ⟨m, ρ, h, k, rs, rh, q, c⟩ => fun p hp => by
  have st := Step.push rh (.dK []) hp
  refine c (.ref h.length) _ (.ref p) (m.push p) _ st (rh.pushO (d := .dk [] []) hp ⟨[], upd_same, rfl, by unfold RelDs; rfl⟩) ?_ q
  unfold RelD
  exact ⟨p, rfl, push_at rh.len⟩
/-- dict(list of pairs) -/
def wDictP : WOL := fun ds h k => ∃ (ks : List Key) (vs : List D), ds = [.lst ((ks.zip vs).map fun p => .tup [kD p.1, p.2])] ∧ ks.length = vs.length ∧ ks.Nodup ∧ k (.dic ks vs) h
theorem pairs_rel {K : PySem.W.Frag} {m : Lay} {H : Hp} : ∀ {ks : List Key} {vs : List D} {ws : List V}, RelDs K m H ((ks.zip vs).map fun p => .tup [kD p.1, p.2]) ws → ks.length = vs.length →
    ∃ (ps : List Addr) (us : List V), ws = ps.map V.ref ∧ Paired (fun p kv => SqT K H p [kV kv.1, kv.2]) ps (ks.zip us) ∧ ks.length = us.length ∧ RelDs K m H vs us
  | [], [], ws, r, _ => by
    rw [List.zip_nil_left, List.map_nil] at r
    unfold RelDs at r
    exact ⟨[], [], r, .nil, rfl, by unfold RelDs; rfl⟩
  | k :: ks, v :: vs, ws, r, hl => by
    rw [List.zip_cons_cons, List.map_cons] at r
    unfold RelDs at r
    obtain ⟨w, t, rfl, h1, h2⟩ := r
    unfold RelD at h1
    obtain ⟨a, zs, rfl, ta, rz⟩ := h1
    obtain ⟨x, y, rfl, rx, ry⟩ := rz.two
    rw [RelD.kD rx] at ta
    obtain ⟨ps, us, rfl, hp, hl2, r2⟩ := pairs_rel h2 (by simpa using hl)
    refine ⟨a :: ps, y :: us, rfl, ?_, by simp [hl2], by unfold RelDs; exact ⟨y, us, rfl, ry, r2⟩⟩
    rw [List.zip_cons_cons]
    exact .cons ta.sq hp
  | [], _ :: _, _, _, hl => by simp at hl
  | _ :: _, [], _, _, hl => by simp at hl
theorem ol_dictP (hc : X.calm = true) : OpL X (.type "dict") wDictP := by
  rintro pins s σ H xs us Q I r ⟨m, h, ds, k, rh, rd, ⟨ks, vs, e, hl, nd, q⟩, f⟩
  subst e
  obtain ⟨v, rfl, r1⟩ := rd.one
  unfold RelD at r1
  obtain ⟨a, ws, rfl, ta, ra⟩ := r1
  obtain ⟨ps, zs, rfl, hp, hl2, r2⟩ := pairs_rel ra hl
  refine call_dictP hc pins s σ H _ us Q I r ⟨a, ps, ks.zip zs, rfl, ta.sq, hp, fun p hp' => ?_⟩
  rw [mergeK_nodup _ _ (by rw [List.nil_append, List.map_fst_zip (by omega)]; exact nd), List.nil_append]
  have st := Step.new rh (.dK (ks.zip zs)) hp'
  refine f (.dic ks vs) h (.ref p) m _ st (rh.new _ hp') ?_ q
  unfold RelD
  exact ⟨p, zs, rfl, rh.notin hp', upd_same, hl2, r2.step st⟩
end
/-! ### kinds by name -/
theorem atK_map {α : Type} {f : α → Key} {g : α → D} : ∀ {l : List α} {a : α}, a ∈ l → (∀ b ∈ l, f b = f a → g b = g a) → atK (f a) (l.map f) (l.map g) = some (g a)
  | x :: l, a, h, u => by
    rw [List.map_cons, List.map_cons]
    unfold atK
    by_cases e : f x = f a
    · rw [if_pos e, u x List.mem_cons_self e]
    · rw [if_neg e]
      rcases List.mem_cons.mp h with rfl | h
      · exact absurd rfl e
      · exact atK_map h fun b hb => u b (List.mem_cons_of_mem _ hb)
theorem OkFmt.acc {f : Fmt} (h : OkFmt f) : Vf.acc f.nd f.kn f.wr = true := acc_iff.mpr ⟨h.nw, h.wk⟩
theorem kind_nao {c : Chan} (h : c.kind = kFree ∨ c.kind = kReader) : c.nao = true := by
  unfold Chan.kind at h
  cases e1 : c.ona <;> cases e2 : c.nao <;> rw [e1, e2] at h <;> first | rfl | exact absurd h (by decide +kernel)
/-- nothing is refused where the reader accepts what is written -/
theorem refd_same {c : Chan} {p : List Stp} (h : Vf.acc (c.rdAt p).1 (c.rdAt p).2 (c.wrAt p) = true) : c.refd p p = false := by
  unfold Chan.refd refd4
  rw [h]; rfl
theorem refdL_nil {cs : List Chan} {p : List Stp} (h : ∀ c ∈ cs, Vf.acc (c.rdAt p).1 (c.rdAt p).2 (c.wrAt p) = true) : refdL cs p p = [] := by
  unfold refdL
  rw [List.filter_eq_nil_iff.mpr fun c hc => by rw [refd_same (h c hc)]; simp]; rfl
theorem lawRefL_none {svc : List Str} {cs : List Chan} (ho : ∀ c ∈ cs, OkCh svc c) (hs : ∀ x ∈ svc, nameOk x) (p : List Stp) : lawRefL cs p (Str.ofString "") [] = refdL cs p p := by
  unfold lawRefL refdL
  congr 1
  refine List.filter_congr fun c hc => ?_
  have oc := ho c hc
  have ne : ∀ x ∈ svc, x ≠ Str.ofString "" := fun x hx e => by
    have := (hs x hx).1
    rw [e] at this
    exact absurd this (by decide)
  unfold lawRef Chan.refd refd4 sentL eyesL
  rw [if_neg (ne _ oc.snd), if_neg (ne _ oc.rcv)]
  simp only [List.any_cons, List.any_nil, List.all_cons, List.all_nil, Bool.or_false, Bool.and_true]
  cases Vf.acc (c.rdAt p).1 (c.rdAt p).2 (c.wrAt p) <;> rfl
theorem Chan.wl_kind (c : Chan) : (c.kind = kReader → c.wl = [wRead, wSwitch]) ∧ (c.kind = kWriter → c.wl = [wSwitch, wRead]) ∧ (c.kind = kSplit → c.wl = [wWiden, wSwitch, wNarrow]) ∧
    (c.kind = kFree → (∀ w ∈ c.wl, w = wSwitch ∨ w = wRead) ∧ (wRead ∈ c.wl ∨ (c.old.nd = c.new.nd ∧ c.old.kn = c.new.kn)) ∧ (wSwitch ∈ c.wl ∨ c.old.wr = c.new.wr)) := by
  have kn := kinds_ne
  refine ⟨fun e => ?_, fun e => ?_, fun e => ?_, fun e => ?_⟩
  · unfold Chan.wl Chan.words; rw [if_pos e]; rfl
  · unfold Chan.wl Chan.words; rw [if_neg (by rw [e]; exact kn.2.2.2.1.symm), if_pos e]; rfl
  · unfold Chan.wl Chan.words; rw [if_neg (by rw [e]; exact kn.2.2.2.2.1.symm), if_neg (by rw [e]; exact kn.2.2.2.2.2.symm), if_pos e]; rfl
  · unfold Chan.wl
    rw [Chan.wl_free e]
    by_cases e1 : c.old.wr = c.new.wr <;> by_cases e2 : c.old.nd = c.new.nd ∧ c.old.kn = c.new.kn
    · rw [if_pos e1, if_pos e2]; exact ⟨by simp, .inr e2, .inr e1⟩
    · rw [if_pos e1, if_neg e2]; exact ⟨by simp, .inl (by simp), .inr e1⟩
    · rw [if_neg e1, if_pos e2]; exact ⟨by simp, .inr e2, .inl (by simp)⟩
    · rw [if_neg e1, if_neg e2]; exact ⟨by simp, .inl (by simp), .inl (by simp)⟩
theorem OkCh.acc_wide {svc : List Str} {c : Chan} (h : OkCh svc c) : Vf.acc c.wideN c.wideK c.old.wr = true ∧ Vf.acc c.wideN c.wideK c.new.wr = true := by
  obtain ⟨_, w2⟩ := wideOk c h.new.kn.asc
  constructor
  · exact acc_iff.mpr ⟨fun x hx => h.old.nw x (List.mem_filter.mp hx).1, fun x hx => (w2 x).mpr (.inl (h.old.wk x hx))⟩
  · exact acc_iff.mpr ⟨fun x hx => h.new.nw x (by simpa using (List.mem_filter.mp hx).2), fun x hx => (w2 x).mpr (.inr (h.new.wk x hx))⟩
theorem step_in {svc : List Str} {cs : List Chan} (ho : OkSys svc cs) {c : Chan} (hc : c ∈ cs) {w : Str} : (c.nm, w) ∈ allS cs ↔ w ∈ c.wl := by
  rw [allS_mem]
  constructor
  · rintro ⟨d, hd, e, hw⟩
    have : c = d := ho.uniq hc hd e
    subst this; exact hw
  · intro hw; exact ⟨c, hc, rfl, hw⟩
/-- at the beginning, at the end -/
theorem acc_none {svc : List Str} {c : Chan} (h : OkCh svc c) : Vf.acc (c.rdAt []).1 (c.rdAt []).2 (c.wrAt []) = true := by
  unfold Chan.rdAt Chan.wrAt
  simp only [List.not_mem_nil, or_self, if_false]
  exact h.old.acc
theorem acc_all {svc : List Str} {cs : List Chan} (ho : OkSys svc cs) {c : Chan} (hc : c ∈ cs) : Vf.acc (c.rdAt (allS cs)).1 (c.rdAt (allS cs)).2 (c.wrAt (allS cs)) = true := by
  have oc := ho.ch c hc
  have si := fun w => step_in ho hc (w := w)
  have wn := words_ne
  have fin : c.rdAt (allS cs) = (c.new.nd, c.new.kn) ∧ c.wrAt (allS cs) = c.new.wr := by
    unfold Chan.rdAt Chan.wrAt
    simp only [si]
    obtain ⟨k1, k2, k3, k4⟩ := c.wl_kind
    rcases c.kind4 with e | e | e | e
    · obtain ⟨a, b, d⟩ := k4 e
      have nn : wNarrow ∉ c.wl := fun z => (a _ z).elim (fun z => wn.2.2.2.2.1 z.symm) fun z => wn.2.2.1 z.symm
      have nw : wWiden ∉ c.wl := fun z => (a _ z).elim (fun z => wn.2.2.2.1 z.symm) fun z => wn.2.1 z.symm
      constructor
      · rcases b with b | b
        · rw [if_pos (.inl b)]
        · by_cases hr : wRead ∈ c.wl
          · rw [if_pos (.inl hr)]
          · rw [if_neg (fun z => z.elim hr nn), if_neg nw, b.1, b.2]
      · rcases d with d | d
        · rw [if_pos d]
        · by_cases hs : wSwitch ∈ c.wl
          · rw [if_pos hs]
          · rw [if_neg hs, d]
    · rw [k1 e]; simp
    · rw [k2 e]; simp
    · rw [k3 e]; simp
  rw [fin.1, fin.2]; exact oc.new.acc
end Vf

namespace Vf
open PySem PySem.Spec PyProof.Rows L2
/-- is there a channel of this name that is not writer first -/
def nwf (cs : List Chan) (x : Str) : Bool := cs.any fun c => decide (c.nm = x) && !decide (c.kind = kWriter)
theorem nwf_at {svc : List Str} {cs : List Chan} (ho : OkSys svc cs) {c : Chan} (hc : c ∈ cs) : nwf cs c.nm = !decide (c.kind = kWriter) := by
  unfold nwf
  cases h : (!decide (c.kind = kWriter)) with
  | true => exact List.any_eq_true.mpr ⟨c, hc, by rw [h, decide_eq_true rfl]; rfl⟩
  | false =>
    rw [List.any_eq_false]
    intro d hd
    by_cases e : d.nm = c.nm
    · have := ho.uniq hd hc e
      subst this
      rw [h]; simp
    · simp [e]
/-- the steps that widen or read, and the switches, of channels that are not writer first -/
def wideS (cs : List Chan) : List Stp := (allS cs).filter fun s => decide (s.2 = wWiden) || (decide (s.2 = wRead) && nwf cs s.1)
def swS (cs : List Chan) : List Stp := (allS cs).filter fun s => decide (s.2 = wSwitch) && nwf cs s.1
theorem acc_safe {svc : List Str} {cs : List Chan} (ho : OkSys svc cs) {c : Chan} (hc : c ∈ cs) {l p : List Stp} (hl : ∀ s ∈ l, s ∈ swS cs) (hp : ∀ s, s ∈ p ↔ s ∈ wideS cs ∨ s ∈ l) :
    Vf.acc (c.rdAt p).1 (c.rdAt p).2 (c.wrAt p) = true := by
  have oc := ho.ch c hc
  have si := fun w => step_in ho hc (w := w)
  have nw := nwf_at ho hc
  have wn := words_ne
  have kn := kinds_ne
  obtain ⟨k1, k2, k3, k4⟩ := c.wl_kind
  have inw : ∀ w, (c.nm, w) ∈ wideS cs ↔ w ∈ c.wl ∧ (w = wWiden ∨ (w = wRead ∧ c.kind ≠ kWriter)) := fun w => by
    unfold wideS
    rw [List.mem_filter, si w]
    show _ ∧ (decide (w = wWiden) || (decide (w = wRead) && nwf cs c.nm)) = true ↔ _
    rw [nw]; simp
  have ins : ∀ w, (c.nm, w) ∈ l → w ∈ c.wl ∧ w = wSwitch ∧ c.kind ≠ kWriter := fun w h => by
    have := hl _ h
    unfold swS at this
    rw [List.mem_filter, si w] at this
    have h2 : (decide (w = wSwitch) && nwf cs c.nm) = true := this.2
    rw [nw] at h2
    simp at h2
    exact ⟨this.1, h2⟩
  have hN : (c.nm, wNarrow) ∉ p := fun z => by
    rcases (hp _).mp z with z | z
    · rcases ((inw _).mp z).2 with z | z
      · exact absurd z (by decide +kernel)
      · exact absurd z.1 (by decide +kernel)
    · exact absurd (ins _ z).2.1 (by decide +kernel)
  have hR : (c.nm, wRead) ∈ p ↔ wRead ∈ c.wl ∧ c.kind ≠ kWriter := by
    rw [hp, inw]
    constructor
    · rintro (⟨a, b⟩ | z)
      · exact ⟨a, b.elim (fun z => absurd z (by decide +kernel)) fun z => z.2⟩
      · exact absurd (ins _ z).2.1 (by decide +kernel)
    · rintro ⟨a, b⟩; exact .inl ⟨a, .inr ⟨rfl, b⟩⟩
  have hW : (c.nm, wWiden) ∈ p ↔ wWiden ∈ c.wl := by
    rw [hp, inw]
    constructor
    · rintro (⟨a, b⟩ | z)
      · exact a
      · exact absurd (ins _ z).2.1 (by decide +kernel)
    · intro a; exact .inl ⟨a, .inl rfl⟩
  have hS : c.kind = kWriter → (c.nm, wSwitch) ∉ p := fun e z => by
    rcases (hp _).mp z with z | z
    · rcases ((inw _).mp z).2 with z | z
      · exact absurd z (by decide +kernel)
      · exact z.2 e
    · exact (ins _ z).2.2 e
  have wr2 : c.wrAt p = c.old.wr ∨ c.wrAt p = c.new.wr := by
    unfold Chan.wrAt; split
    · exact .inr rfl
    · exact .inl rfl
  have both : c.nao = true → Vf.acc c.new.nd c.new.kn (c.wrAt p) = true := fun hn => by
    rcases wr2 with e | e <;> rw [e]
    · exact hn
    · exact oc.new.acc
  rcases c.kind4 with e | e | e | e
  · have ne : c.kind ≠ kWriter := by rw [e]; decide +kernel
    obtain ⟨a, b, d⟩ := k4 e
    have hw : wWiden ∉ c.wl := fun z => (a _ z).elim (fun z => absurd z (by decide +kernel)) fun z => absurd z (by decide +kernel)
    have er : c.rdAt p = (c.new.nd, c.new.kn) := by
      unfold Chan.rdAt
      by_cases r : wRead ∈ c.wl
      · rw [if_pos (.inl (hR.mpr ⟨r, ne⟩))]
      · rw [if_neg (fun z => z.elim (fun z => r (hR.mp z).1) hN), if_neg (fun z => hw (hW.mp z))]
        rcases b with b | b
        · exact absurd b r
        · rw [b.1, b.2]
    rw [er]; exact both (kind_nao (.inl e))
  · have ne : c.kind ≠ kWriter := by rw [e]; decide +kernel
    have er : c.rdAt p = (c.new.nd, c.new.kn) := by
      unfold Chan.rdAt
      rw [if_pos (.inl (hR.mpr ⟨by rw [k1 e]; simp, ne⟩))]
    rw [er]; exact both (kind_nao (.inr e))
  · have hw : wWiden ∉ c.wl := by rw [k2 e]; decide +kernel
    have er : c.rdAt p = (c.old.nd, c.old.kn) := by
      unfold Chan.rdAt
      rw [if_neg (fun z => z.elim (fun z => (hR.mp z).2 e) hN), if_neg (fun z => hw (hW.mp z))]
    have ew : c.wrAt p = c.old.wr := by unfold Chan.wrAt; rw [if_neg (hS e)]
    rw [er, ew]; exact oc.old.acc
  · have hr : wRead ∉ c.wl := by rw [k3 e]; decide +kernel
    have er : c.rdAt p = (c.wideN, c.wideK) := by
      unfold Chan.rdAt
      rw [if_neg (fun z => z.elim (fun z => hr (hR.mp z).1) hN), if_pos (hW.mpr (by rw [k3 e]; simp))]
    obtain ⟨w1, w2⟩ := oc.acc_wide
    rw [er]
    rcases wr2 with e | e <;> rw [e]
    · exact w1
    · exact w2
end Vf

namespace Vf
open PySem PySem.Spec PyProof.Rows L2
section
variable {X : Cx}
/-- tuple(text) -/
def chD (x : Str) : List D := x.cps.toList.map fun c => D.str ⟨#[c]⟩
def wTupleS : WOL := fun ds h k => ∃ x : Str, ds = [.str x] ∧ x.cps.size ≤ sizeLine ∧ k (.tup (chD x)) h
theorem signs_vals : ∀ {cs : List Nat} {vs : List Value}, vs.length = cs.length → (∀ (j : Nat) (v : Value), vs[j]? = some v → ∃ c u, cs[j]? = some c ∧ v = .str ⟨#[c]⟩ u) → Vals (cs.map fun c => V.str ⟨#[c]⟩) vs
  | [], [], _, _ => .nil
  | c :: cs, v :: vs, hl, h => by
    obtain ⟨c', u, e1, e2⟩ := h 0 v rfl
    cases e1
    exact .cons ⟨u, e2⟩ (signs_vals (by simpa using hl) fun j w hw => h (j + 1) w hw)
  | [], _ :: _, hl, _ => by simp at hl
  | _ :: _, [], hl, _ => by simp at hl
theorem ol_tupleS (hc : X.calm = true) : OpL X (.type "tuple") wTupleS := by
  rintro pins s σ H xs us Q I r ⟨m, h, ds, k, rh, rd, ⟨x, e, hz, q⟩, f⟩
  subst e
  obtain ⟨v, rfl, r1⟩ := rd.one
  unfold RelD at r1
  subst r1
  obtain ⟨u, rfl, rx⟩ := vals1 r
  obtain ⟨t, rfl⟩ := rx
  refine call_tuple_str (hsz := hz) (I.ok.hd hc) x t fun h' tk acc hk hacc => ?_
  have I1 : Inv X pins σ H { s with heap := h', toks := tk } := I.kept hk
  have rv : Vals (x.cps.toList.map fun c => V.str ⟨#[c]⟩) acc.toList := signs_vals (by simp [hacc.1]) fun j v hv => by
    obtain ⟨c, u, h1, h2⟩ := hacc.2 j v (by simpa using hv)
    exact ⟨c, u, by simpa using h1, h2⟩
  have I2 : Inv X pins σ (upd H h'.objs.size (.tup (x.cps.toList.map fun c => V.str ⟨#[c]⟩))) { s with heap := h'.push { cls := .type "tuple", data := .seq acc }, toks := tk } :=
    I1.laid (t' := tk) (fun b o e => Heap.get?_push_of_some _ e) (Nat.le_refl _) (show ObjOk X.prog X.w _ _ _ (.tup _) from ⟨by simpa using hz, acc.toList, rv, by rw [Array.toArray_toList]; exact IsTup.new _ _⟩)
  have hn := I1.hok.fresh (Nat.le_refl h'.objs.size)
  refine ⟨.ref h'.objs.size, _, I2, rfl, f.new rh hn (.tupNew rh hn ?_) q⟩
  have := strs_rel (K := X.K) (m := m) (H := H) (x.cps.toList.map fun c => (⟨#[c]⟩ : Str))
  rw [List.map_map, List.map_map] at this
  exact this
/-- list + list that changes -/
def wAddR : WO2 := fun x y h k => wAdd x y h k ∨ ∃ a n b, x = .lst a ∧ y = .ref n ∧ h[n]? = some (.lst b) ∧ a.length + b.length ≤ sizeLine ∧ k (.lst (a ++ b)) h
theorem op2_addR : Op2 X (binaryOp .Add) wAddR := by
  rintro pins s σ H x y v u Q I rx ry ⟨m, h, dx, dy, k, rh, r1, r2, w | ⟨a, n, b, e1, e2, hn, hz, w⟩, f⟩
  · exact op2_add pins s σ H x y v u Q I rx ry ⟨m, h, dx, dy, k, rh, r1, r2, w, f⟩
  subst e1 e2
  unfold RelD at r1 r2
  obtain ⟨a', vs, rfl, ta, ra⟩ := r1
  obtain ⟨b', rfl, hb⟩ := r2
  obtain ⟨c, ec, ws, ev, rb⟩ := rh.ob n _ hn
  rw [hb] at ec; cases ec
  exact op_cat pins s σ H _ _ v u Q I rx ry ⟨a', b', vs, ws, rfl, rfl, ta.2, ev, by rw [← ra.length, ← rb.length]; exact hz, fun p hp => f.new rh hp (.lstNew rh hp (rb.app ra)) w⟩
end
/-! ### channels in order -/
theorem chan_lt {a b : Chan} (h : a.nm ≠ b.nm) : dLt a.d b.d = true ↔ a.nm.cps.toList < b.nm.cps.toList := by
  have hne : (Sum.inr a.nm.cps.toList : Int ⊕ List Nat) ≠ Sum.inr b.nm.cps.toList := fun e => h (str_ext (Sum.inr.inj e))
  unfold dLt PySem.W.dataLt
  have e : ∀ c : Chan, ∃ r, PySem.W.keyToks (toPy c.d) = Sum.inl 1 :: Sum.inr c.nm.cps.toList :: r := fun c => by
    refine ⟨PySem.W.keyToksAll (toPys [.str c.snd, .str c.rcv, c.old.d, c.new.d]), ?_⟩
    simp [Chan.d, toPy, toPys, PySem.W.keyToks, PySem.W.keyToksAll]
  obtain ⟨r, er⟩ := e a
  obtain ⟨t, et⟩ := e b
  rw [er, et, lex_self, lex_diff hne]
  show PyProof.Rows.strKind.blt a.nm.cps.toList b.nm.cps.toList = true ↔ _
  simp [PyProof.Rows.strKind]
def sortC (l : List Chan) : List Chan := l.mergeSort fun a b => dLe a.d b.d
theorem srtD_chs (l : List Chan) : srtD (l.map Chan.d) = (sortC l).map Chan.d := (PySem.W.sort_maps Chan.d fun _ _ _ _ => rfl).symm
theorem sortC_perm (l : List Chan) : (sortC l).Perm l := List.mergeSort_perm _ _
theorem leC_total : PySem.W.TotalLe (fun a b : Chan => dLe a.d b.d) := PySem.W.sortLe_total (listOrd itemOrd) false fun c : Chan => PySem.W.keyToks (toPy c.d)
theorem sortC_asc {l : List Chan} (nd : (l.map Chan.nm).Nodup) : Asc ((sortC l).map Chan.nm) := by
  have h1 : (sortC l).Pairwise fun a b => dLe a.d b.d = true := PySem.W.sort_pairwise leC_total l
  have h2 : ((sortC l).map Chan.nm).Nodup := ((sortC_perm l).map _).nodup_iff.mpr nd
  unfold Asc
  rw [List.pairwise_map]
  rw [List.Nodup, List.pairwise_map] at h2
  refine (List.Pairwise.and h1 h2).imp fun {a b} h => ?_
  obtain ⟨hle, hne⟩ := h
  have h4 : dLt b.d a.d = false := by
    have : (!dLt b.d a.d) = true := hle
    simpa using this
  have h5 : ¬ b.nm.cps.toList < a.nm.cps.toList := fun z => by
    rw [(chan_lt (Ne.symm hne)).mpr z] at h4
    exact nomatch h4
  rcases List.le_iff_lt_or_eq.mp (List.not_lt.mp h5) with z | z
  · exact z
  · exact absurd (str_ext z) hne
open PySem.W (alike alikeAll dataLt AllAlike Sortable) in
theorem alike_strs : ∀ xs ys : List Str, alikeAll (toPys (xs.map D.str)) (toPys (ys.map D.str)) = true
  | [], ys => by rw [List.map_nil, show toPys [] = [] by unfold toPys; rfl]; unfold alikeAll; cases toPys (ys.map D.str) <;> rfl
  | _ :: _, [] => by rw [List.map_nil, List.map_cons]; unfold toPys; rfl
  | x :: xs, y :: ys => by
    rw [List.map_cons, List.map_cons]
    unfold toPys toPy
    unfold alikeAll alike
    rw [alike_strs xs ys]; rfl
open PySem.W (alike alikeAll dataLt AllAlike Sortable) in
theorem alike_chs (a b : Chan) : alike (toPy a.d) (toPy b.d) = true := by
  have := alike_strs
  simp [Chan.d, Fmt.d, txs, toPy, toPys, alike, alikeAll, this]
open PySem.W (alike alikeAll dataLt AllAlike Sortable) in
theorem chs_srtOk {svc : List Str} {l : List Chan} (h : ∀ c ∈ l, OkCh svc c) (hs : ∀ x ∈ svc, nameOk x) : SrtOk (l.map Chan.d) := by
  refine ⟨fun x hx => ?_, fun d hd d' hd' => ?_, .inl fun d hd => ?_⟩
  · obtain ⟨c, hc, rfl⟩ := List.mem_map.mp hx
    have := OkCh.sm hs (h c hc)
    exact ⟨this.nr, Nat.le_trans this.dep (by decide)⟩
  · rw [List.map_map] at hd hd'
    obtain ⟨s, _, rfl⟩ := List.mem_map.mp hd
    obtain ⟨s', _, rfl⟩ := List.mem_map.mp hd'
    exact alike_chs s s'
  · rw [List.map_map] at hd
    obtain ⟨s, _, rfl⟩ := List.mem_map.mp hd
    exact ⟨_, _, rfl⟩
end Vf

namespace Vf
open PySem PySem.Spec PyProof.Rows L2
/-! ### dicts with tuple keys -/
abbrev TKey := List Key
def atT {α : Type} (k : TKey) : List TKey → List α → Option α
  | g :: r, x :: xs => if g = k then some x else atT k r xs
  | _, _ => none
theorem atT_val (k : TKey) : ∀ (ks : List TKey) (vs : List V), valV (ks.zip vs) k = atT k ks vs
  | [], vs => by unfold atT; rfl
  | g :: r, [] => by unfold atT; rfl
  | g :: r, x :: xs => by
    rw [List.zip_cons_cons]
    unfold atT
    by_cases e : g = k
    · rw [if_pos e, valV_pos (p := (g, x)) e]
    · rw [if_neg e, valV_neg (p := (g, x)) e]; exact atT_val k r xs
theorem RelDs.atT {K : PySem.W.Frag} {m : Lay} {H : Hp} {k : TKey} : ∀ {ks : List TKey} {ds : List D} {vs : List V}, RelDs K m H ds vs → (∀ d, Vf.atT k ks ds = some d → ∃ v, Vf.atT k ks vs = some v ∧ RelD K m H d v) ∧ (Vf.atT k ks ds = none → Vf.atT k ks vs = none)
  | [], ds, vs, r => by unfold Vf.atT; exact ⟨fun d e => (nomatch e), fun _ => rfl⟩
  | g :: ks, [], vs, r => by
    unfold RelDs at r; subst r
    unfold Vf.atT
    exact ⟨fun d e => (nomatch e), fun _ => rfl⟩
  | g :: ks, d0 :: ds, vs, r => by
    unfold RelDs at r
    obtain ⟨x, t, rfl, r1, r2⟩ := r
    unfold Vf.atT
    by_cases hg : g = k
    · rw [if_pos hg, if_pos hg]
      exact ⟨fun d e => by cases e; exact ⟨x, rfl, r1⟩, fun e => (nomatch e)⟩
    · rw [if_neg hg, if_neg hg]; exact RelDs.atT r2
theorem RelDs.atTD {K : PySem.W.Frag} {m : Lay} {H : Hp} {k : TKey} {ks : List TKey} {ds : List D} {vs : List V} {z : D} {y : V} (r : RelDs K m H ds vs) (rz : RelD K m H z y) : RelD K m H ((Vf.atT k ks ds).getD z) ((Vf.atT k ks vs).getD y) := by
  have h := RelDs.atT (k := k) (ks := ks) r
  cases e : Vf.atT k ks ds with
  | none => rw [h.2 e]; exact rz
  | some d =>
    obtain ⟨v, ev, rv⟩ := h.1 d e
    rw [ev]; exact rv
def hasT (k : TKey) (ks : List TKey) : Bool := ks.any fun g => decide (g = k)
theorem hasT_iff {k : TKey} {ks : List TKey} : hasT k ks = true ↔ k ∈ ks := by
  unfold hasT
  rw [List.any_eq_true]
  exact ⟨fun ⟨g, h, e⟩ => of_decide_eq_true e ▸ h, fun h => ⟨k, h, decide_eq_true rfl⟩⟩
def putTs (k : TKey) (ks : List TKey) : List TKey := if hasT k ks = true then ks else ks ++ [k]
def putVT {α : Type} (k : TKey) (v : α) (ks : List TKey) (vs : List α) : List α := if hasT k ks = true then (ks.zip vs).map (fun p => if p.1 = k then v else p.2) else vs ++ [v]
theorem putT_zip (k : TKey) (v : V) (ks : List TKey) (vs : List V) (hl : ks.length = vs.length) : putK (ks.zip vs) k v = (putTs k ks).zip (putVT k v ks vs) ∧ (putTs k ks).length = (putVT k v ks vs).length := by
  have ha : ((ks.zip vs).any fun kv => decide (kv.1 = k)) = hasT k ks := by
    rw [Bool.eq_iff_iff, List.any_eq_true, hasT_iff]
    constructor
    · rintro ⟨p, hp, e⟩
      rw [← of_decide_eq_true e]
      exact (List.of_mem_zip (a := p.1) (b := p.2) hp).1
    · intro hk
      obtain ⟨i, hi⟩ := List.mem_iff_getElem?.mp hk
      have hi2 := (List.getElem?_eq_some_iff.mp hi).1
      refine ⟨(k, vs[i]'(by omega)), ?_, by simp⟩
      exact List.mem_of_getElem? (i := i) (List.getElem?_zip_eq_some.mpr ⟨hi, by simp [show i < vs.length by omega]⟩)
  unfold putK putTs putVT
  rw [ha]
  by_cases hk : hasT k ks = true
  · rw [if_pos hk, if_pos hk, if_pos hk]
    refine ⟨?_, by simp [hl]⟩
    clear ha hk
    induction ks generalizing vs with
    | nil => rfl
    | cons g r ih =>
      cases vs with
      | nil => simp at hl
      | cons x xs =>
        rw [List.zip_cons_cons, List.map_cons, List.map_cons, List.zip_cons_cons, ih xs (by simpa using hl)]
        by_cases e : g = k
        · simp [e]
        · simp [e]
  · rw [if_neg hk, if_neg hk, if_neg hk]
    refine ⟨?_, by simp [hl]⟩
    rw [List.zip_append hl]; rfl
theorem RelDs.putVT {K : PySem.W.Frag} {m : Lay} {H : Hp} {k : TKey} {d : D} {v : V} (rd : RelD K m H d v) {ks : List TKey} {ds : List D} {vs : List V} (r : RelDs K m H ds vs) : RelDs K m H (Vf.putVT k d ks ds) (Vf.putVT k v ks vs) := by
  unfold Vf.putVT
  by_cases hk : hasT k ks = true
  · rw [if_pos hk, if_pos hk]
    clear hk
    induction ks generalizing ds vs with
    | nil => unfold List.zip List.zipWith List.map RelDs; rfl
    | cons g t ih =>
      cases ds with
      | nil => unfold RelDs at r; subst r; unfold List.zip List.zipWith List.map RelDs; rfl
      | cons d0 ds =>
        unfold RelDs at r
        obtain ⟨x, xs, rfl, r1, r2⟩ := r
        rw [List.zip_cons_cons, List.zip_cons_cons, List.map_cons, List.map_cons]
        unfold RelDs
        refine ⟨_, _, rfl, ?_, ih r2⟩
        by_cases e : g = k
        · rw [if_pos e, if_pos e]; exact rd
        · rw [if_neg e, if_neg e]; exact r1
  · rw [if_neg hk, if_neg hk]; exact r.snoc rd
section
variable {X : Cx}
/-- {} with tuple keys -/
def wDictT0 : W1 := fun _ h k => k (.ref h.length) (h ++ [.dt [] []])
theorem de_dictT0 {pos : Pos} : DE X (.Dict [] [] pos) wDictT0 := PE.imp pe_dnewT fun σ H Q ⟨m, ρ, h, k, rs, rh, q, c⟩ => fun p hp => by
  have st := Step.push rh (.dT []) hp
  refine c (.ref h.length) _ (.ref p) (m.push p) _ st (rh.pushO (d := .dt [] []) hp ⟨[], upd_same, rfl, by unfold RelDs; rfl⟩) ?_ q
  unfold RelD
  exact ⟨p, rfl, push_at rh.len⟩
/-- d[a, b] = v -/
def wDPutT (wo : W1) (wi : WL) (wv : W1) : WS := fun e ρ h => wv ρ h fun v h1 => wo ρ h1 fun x h2 => wi ρ h2 fun ys h3 => ∃ n ks ds j, x = .ref n ∧ ys = j.map kD ∧ ys.length ≤ sizeLine ∧ h3[n]? = some (.dt ks ds) ∧ ks.length < sizeLine ∧ e.nx ρ (h3.set n (.dt (putTs j ks) (putVT j v ks ds)))
theorem ds_dputT {n : Nat} {o value : Expr} {es : List Expr} {x1 : Nat} {wo wv : W1} {wi : WL} {pos pos' pos2 : Pos} (hr : Room n X.A) (ho : DE X o wo) (hi : DA X es wi) (hv : DE X value wv) (hs : swapsWith value (some (.Subscript o (.Tuple es x1 pos2) pos')) pos.line X.env = pure false := by rfl) :
    DS X (.Assign [.Subscript o (.Tuple es x1 pos2) pos'] value pos) (wDPutT wo wi wv) :=
  PS.imp (ps_dput (Room.u1 hr) ho (pe_tup hi) hv hs) fun D σ H ⟨m, ρ, h, e, rs, rh, q, fo⟩ => ⟨m, ρ, h, _, rs, rh, q, fun v h1 u m1 H1 s1 rh1 rv q1 => ⟨m1, ρ, h1, _, rs.step s1, rh1, q1, fun x h2 w m2 H2 s2 rh2 rx q2 => ⟨m2, ρ, h2, _, (rs.step s1).step s2, rh2, q2, fun ys h3 zs m3 H3 s3 rh3 rys ⟨n, ks, ds, j, e1, e2, hz, hn, hl, q3⟩ => ⟨by rw [← rys.length]; exact hz, fun p hp => by
    subst e1 e2
    have ez : zs = j.map kV := RelDs.kD rys
    subst ez
    have rx3 := rx.step s3
    unfold RelD at rx3
    obtain ⟨a, rfl, ha⟩ := rx3
    obtain ⟨b, eb, vs, ev, hl2, r⟩ := rh3.ob n _ hn
    rw [ha] at eb; cases eb
    have pz := putT_zip j u ks vs hl2
    have sp : Step m3 H3 m3 (upd H3 p (.tup (j.map kV))) := Step.new rh3 _ hp
    have rh4 := rh3.new (.tup (j.map kV)) hp
    have hap : a ≠ p := fun z => by rw [← z, ev] at hp; exact nomatch hp
    have st := Step.put rh4 (.dT (putK (ks.zip vs) j u)) (List.mem_of_getElem? ha)
    refine ⟨a, _, rfl, .inr ⟨_, j, p, by rw [upd_ne hap]; exact ev, rfl, upd_same, by rw [List.length_zip]; omega, rfl⟩, ?_⟩
    refine fo.nx ρ _ σ m3 _ ((((s1.trans s2).trans s3).trans sp).trans st) (((((rs.step s1).step s2).step s3).step sp).step st) (rh4.putO (d := .dt (putTs j ks) (putVT j v ks ds)) ha ⟨_, by rw [← pz.1]; exact upd_same, pz.2, ?_⟩) q3
    exact (RelDs.putVT (((rv.step s2).step s3).step sp) (r.step sp)).step st⟩⟩⟩⟩
/-- d[k], the key a tuple -/
theorem key_ofS {pins : List (Addr × Obj)} {s : Shared} {σ : L2.St} {H : Hp} {a : Addr} {ks : List Key} (I : Inv X pins σ H s) (e : SqT X.K H a (ks.map kV)) : (tupleKind (mixKind X.prog X.w)).is s.heap ks a := by
  obtain ⟨its, r, ⟨o, h1, h2, n, h3⟩, hz⟩ := I.tuple e
  exact ⟨o, its.toArray, n, h1, h2, h3, by simpa using items_are r⟩
def DTat (d : D) (h : DH) (ks : List TKey) (ds : List D) : Prop := ∃ n, d = .ref n ∧ h[n]? = some (.dt ks ds)
def wDIxT (a b : W1) : W1 := fun ρ h k => a ρ h fun x h1 => b ρ h1 fun y h2 => ∃ ks ds j d, DTat x h2 ks ds ∧ y = .tup (j.map kD) ∧ atT j ks ds = some d ∧ k d h2
def tDGetT (K : PySem.W.Frag) (td ty : TE) : TE := fun σ H Q => td σ H fun x H1 => ty σ H1 fun y H2 => ∃ a b kvs j v, x = .ref a ∧ y = .ref b ∧ Rd H2 a (.dT kvs) ∧ SqT K H2 b (j.map kV) ∧ valV kvs j = some v ∧ Q v H2
theorem pe_dgetT {o i : Expr} {td ty : TE} {pos : Pos} (hu : X.A.units + 1 < cLine) (ho : PE X o td) (hi : PE X i ty) (hs : NoSl i) : PE X (.Subscript o i pos) (tDGetT X.K td ty) := by
  refine ⟨fun pins s σ H Q I h => ?_⟩
  refine subD_of PySem.F.slot_dict_getitem.lookup hs (thn (ho.run pins s σ H _ I h) fun u s1 ⟨x, H1, I1, rx, q1⟩ => thn (hi.run pins s1 σ H1 _ I1 q1) fun iv s2 ⟨y, H2, I2, ry, a, b, kvs, j, v, ex, ey, e, eb, l, q2⟩ => ?_)
  subst ex ey
  obtain rfl : u = Value.ref a := rx
  obtain rfl : iv = Value.ref b := ry
  obtain ⟨z, hd, xs, rel, dd⟩ := dt_rd I2.hok e
  obtain ⟨w', hw, rw'⟩ := L2.RelO.some_of (v := v) (o := (atKey xs j).map (·.2)) (by rw [← l]; exact rel.val j)
  obtain ⟨p, hp, hp2⟩ := Option.map_eq_some_iff.mp hw
  refine ⟨dd.typeIs, wpAny_getItem_heap (tupleKind_room_in1 hu) (key_ofS I2 eb) dd hp ?_⟩
  rw [hp2]
  exact ⟨v, H2, I2.tok _, rw', q2⟩
theorem de_dixT {n : Nat} {a b : Expr} {wa wb : W1} {pos : Pos} (hr : Room n X.A) (ha : DE X a wa) (hb : DE X b wb) (hs : NoSl b := by exact fun _ _ => rfl) : DE X (.Subscript a b pos) (wDIxT wa wb) :=
  PE.imp (pe_dgetT (Room.u1 hr) ha hb hs) fun σ H Q ⟨m, ρ, h, k, rs, rh, q, c⟩ => ⟨m, ρ, h, _, rs, rh, q, fun x h1 v m1 H1 s1 rh1 rx q1 => ⟨m1, ρ, h1, _, rs.step s1, rh1, q1, fun y h2 u m2 H2 s2 rh2 ry ⟨ks, ds, j, d, ⟨n, e1, hn⟩, ey, ed, q2⟩ => by
    subst ey e1
    have rx2 := rx.step s2
    unfold RelD at rx2 ry
    obtain ⟨a, rfl, ha⟩ := rx2
    obtain ⟨b, zs, rfl, tb, rb⟩ := ry
    obtain ⟨a', ea, vs, ev, hl, r⟩ := rh2.ob n _ hn
    rw [ha] at ea; cases ea
    obtain ⟨z, ez, rz⟩ := (RelDs.atT r).1 d ed
    have eb := tb.sq
    rw [RelDs.kD rb] at eb
    exact ⟨a, b, _, j, z, rfl, rfl, .inl ev, eb, by rw [atT_val, ez], c d h2 z m2 H2 (s1.trans s2) rh2 rz q2⟩⟩⟩
end
end Vf

namespace Vf
open PySem PySem.Spec PyProof.Rows L2
/-- a tuple is not among what changes -/
theorem RelH.tupFree {K : PySem.W.Frag} {m : Lay} {H : Hp} {h : DH} (r : RelH K m H h) {b : Addr} {vs : List V} (e : H b = some (.tup vs)) : ¬ m.pr b := by
  rintro (z | z)
  · obtain ⟨i, hi⟩ := List.mem_iff_getElem?.mp z
    have hl : i < h.length := by rw [← r.len]; exact (List.getElem?_eq_some_iff.mp hi).1
    obtain ⟨a, ea, q⟩ := r.ob i (h[i]) (by simp [hl])
    rw [hi] at ea; cases ea
    cases hd : h[i] with
    | lst ds => rw [hd] at q; obtain ⟨ws, e1, _⟩ := q; rw [e] at e1; cases e1
    | obj c ns ds => rw [hd] at q; obtain ⟨C, dx, ws, _, e1, _⟩ := q; rw [e] at e1; cases e1
    | dk ks ds => rw [hd] at q; obtain ⟨ws, e1, _⟩ := q; rw [e] at e1; cases e1
    | dt ks ds => rw [hd] at q; obtain ⟨ws, e1, _⟩ := q; rw [e] at e1; cases e1
    | dtl o ws ks ds => rw [hd] at q; obtain ⟨e1, _⟩ := q; rw [e] at e1; cases e1
    | dkl o ws ks ds => rw [hd] at q; obtain ⟨e1, _⟩ := q; rw [e] at e1; cases e1
  · obtain ⟨o, e1, nt⟩ := r.tr b z
    rw [e] at e1; cases e1
    exact nt _ rfl
theorem rel_kD {K : PySem.W.Frag} {m : Lay} {H : Hp} : ∀ k : List Key, RelDs K m H (k.map kD) (k.map kV)
  | [] => by unfold List.map RelDs; rfl
  | .inl i :: k => by rw [List.map_cons, List.map_cons]; unfold RelDs; exact ⟨_, _, rfl, by unfold kD RelD kV; rfl, rel_kD k⟩
  | .inr x :: k => by rw [List.map_cons, List.map_cons]; unfold RelDs; exact ⟨_, _, rfl, by unfold kD RelD kV; rfl, rel_kD k⟩
def keyD (k : TKey) : D := .tup (k.map kD)
theorem rel_key {K : PySem.W.Frag} {m : Lay} {H : Hp} {h : DH} (r : RelH K m H h) {b : Addr} {k : TKey} (e : H b = some (.tup (k.map kV))) : RelD K m H (keyD k) (.ref b) := by
  unfold keyD RelD
  exact ⟨b, _, rfl, .inl ⟨r.tupFree e, .inl e⟩, rel_kD k⟩
theorem rel_keys {K : PySem.W.Frag} {m : Lay} {H : Hp} {h : DH} (r : RelH K m H h) : ∀ {ks : List TKey} {vs : List V} {bs : List Addr}, ks.length = vs.length → IsKeys H (ks.zip vs) bs → RelDs K m H (ks.map keyD) (bs.map V.ref)
  | [], [], bs, _, h => by
    unfold IsKeys at h; cases h
    unfold List.map RelDs; rfl
  | k :: ks, v :: vs, bs, hl, h => by
    unfold IsKeys at h
    rw [List.zip_cons_cons] at h
    cases h with
    | cons a t =>
      rw [List.map_cons, List.map_cons]; unfold RelDs
      exact ⟨_, _, rfl, rel_key r a, rel_keys r (by simpa using hl) t⟩
  | [], _ :: _, _, hl, _ => by simp at hl
  | _ :: _, [], _, hl, _ => by simp at hl
section
variable {X : Cx}
/-- the dict, walked or not -/
def DTat' (d : D) (h : DH) (ks : List TKey) (ds : List D) : Prop := ∃ n, d = .ref n ∧ (h[n]? = some (.dt ks ds) ∨ ∃ o vs, h[n]? = some (.dtl o vs ks ds))
theorem DTat'.rel {K : PySem.W.Frag} {m : Lay} {H : Hp} {h : DH} {d : D} {v : V} {ks : List TKey} {ds : List D} (rh : RelH K m H h) (rd : RelD K m H d v) (e : DTat' d h ks ds) : ∃ a vs, v = .ref a ∧ Rd H a (.dT (ks.zip vs)) ∧ ks.length = vs.length ∧ RelDs K m H ds vs := by
  obtain ⟨n, rfl, e | ⟨o, vs, e⟩⟩ := e
  · unfold RelD at rd
    obtain ⟨a, rfl, ha⟩ := rd
    obtain ⟨b, eb, vs, ev, hl, r⟩ := rh.ob n _ e
    rw [ha] at eb; cases eb
    exact ⟨a, vs, rfl, .inl ev, hl, r⟩
  · unfold RelD at rd
    obtain ⟨a, rfl, ha⟩ := rd
    obtain ⟨b, eb, ev, hl, r⟩ := rh.ob n _ e
    rw [ha] at eb; cases eb
    exact ⟨a, vs, rfl, .inr ⟨o, ev⟩, hl, r⟩
/-- d[k], also while it is walked -/
def wDIxL (a b : W1) : W1 := fun ρ h k => a ρ h fun x h1 => b ρ h1 fun y h2 => ∃ ks ds j d, DTat' x h2 ks ds ∧ y = keyD j ∧ atT j ks ds = some d ∧ k d h2
theorem de_dixL {n : Nat} {a b : Expr} {wa wb : W1} {pos : Pos} (hr : Room n X.A) (ha : DE X a wa) (hb : DE X b wb) (hs : NoSl b := by exact fun _ _ => rfl) : DE X (.Subscript a b pos) (wDIxL wa wb) :=
  PE.imp (pe_dgetT (Room.u1 hr) ha hb hs) fun σ H Q ⟨m, ρ, h, k, rs, rh, q, c⟩ => ⟨m, ρ, h, _, rs, rh, q, fun x h1 v m1 H1 s1 rh1 rx q1 => ⟨m1, ρ, h1, _, rs.step s1, rh1, q1, fun y h2 u m2 H2 s2 rh2 ry ⟨ks, ds, j, d, e1, ey, ed, q2⟩ => by
    subst ey
    obtain ⟨a, vs, rfl, ev, hl, r⟩ := e1.rel rh2 (rx.step s2)
    unfold keyD RelD at ry
    obtain ⟨b, zs, rfl, tb, rb⟩ := ry
    obtain ⟨z, ez, rz⟩ := (RelDs.atT r).1 d ed
    have eb := tb.sq
    rw [RelDs.kD rb] at eb
    exact ⟨a, b, _, j, z, rfl, rfl, ev, eb, by rw [atT_val, ez], c d h2 z m2 H2 (s1.trans s2) rh2 rz q2⟩⟩⟩
/-- an expression that walks the dict at place i -/
def wLock (i : Nat) (w : W1) : W1 := fun ρ h k => ∃ n ks ds, ρ[i]? = some (some (.ref n)) ∧ h[n]? = some (.dt ks ds) ∧ ∀ o vs, w ρ (h.set n (.dtl o vs ks ds)) fun x h' => h'[n]? = some (.dtl o vs ks ds) ∧ k x (h'.set n (.dt ks ds))
theorem de_lock (i : Nat) {e : Expr} {w : W1} (h : DE X e w) : DE X e (wLock i w) := PE.imp (pe_lock h) fun σ H Q ⟨m, ρ, h, k, rs, rh, ⟨n, ks, ds, e1, e2, q⟩, c⟩ => by
  obtain ⟨a, ea, vs, ev, hl, r⟩ := rh.ob n _ e2
  have am : a ∈ m.m := List.mem_of_getElem? ea
  refine ⟨a, _, ev, ?_, fun od => ?_⟩
  · trivial
  have st := Step.put rh (.frz od (.dT (ks.zip vs))) am
  refine ⟨m, ρ, h.set n (.dtl od vs ks ds), _, rs.step st, rh.putO (d := .dtl od vs ks ds) ea ⟨upd_same, hl, r.step st⟩, q od vs, fun d h' v m' H' s' rh' rd ⟨e3, q'⟩ => ?_⟩
  obtain ⟨a', ea', ev', hl', r'⟩ := rh'.ob n _ e3
  have : a' = a := by
    have := s'.mv.at ea
    rw [this] at ea'; cases ea'; rfl
  subst this
  have st2 := Step.put rh' (.dT (ks.zip vs)) (List.mem_of_getElem? ea')
  exact ⟨ev', c d _ v m' _ ((st.trans s').trans st2) (rh'.putO (d := .dt ks ds) ea' ⟨vs, upd_same, hl, r'.step st2⟩) (rd.step st2) q'⟩
/-- for k in d -/
def wKeysT (w : W1) : WI := fun ρ h k => w ρ h fun d h1 => ∃ n o vs ks ds, d = .ref n ∧ h1[n]? = some (.dtl o vs ks ds) ∧ k ⟨ks.map keyD, fun h' => h'[n]? = some (.dtl o vs ks ds)⟩ h1
theorem itok_keysT {K : PySem.W.Frag} {m : Lay} {H : Hp} {n : Nat} {a : Addr} {o : Obj} {vs : List V} {ks : List TKey} {ds : List D} (ha : m.m[n]? = some a) (hl : ks.length = vs.length) : ItOk K m H ⟨ks.map keyD, fun h' => h'[n]? = some (.dtl o vs ks ds)⟩ (Itkt a o (ks.zip vs)) := by
  refine ⟨⟨_, _, by rw [show (ks.map keyD).length = (ks.zip vs).length by simp; omega]; exact walk_keysT, fun m1 H1 h1 s1 rh1 e => ?_, fun i m1 H1 x H2 h1 s1 rh1 e y => ?_⟩⟩
  · obtain ⟨b, eb, ev, _, _⟩ := rh1.ob n _ e
    rw [s1.at ha] at eb; cases eb
    exact ev
  · obtain ⟨rfl, k, v, q, e1, rfl, e2⟩ := y
    refine ⟨keyD k, ?_, Step.refl _ _, rh1, rel_key rh1 e2⟩
    rw [List.getElem?_map, (List.getElem?_zip_eq_some.mp e1).1]; rfl
theorem di_keysT {tg e : Expr} {w : W1} (he : DE X e w) : DI X tg e (wKeysT w) := PI.imp (pi_keys he) fun σ H R ⟨m, ρ, h, k, rs, rh, q, f⟩ => ⟨m, ρ, h, _, rs, rh, q, fun d h1 v m1 H1 s1 rh1 rd ⟨n, o, vs, ks, ds, e, hn, q1⟩ => by
  subst e
  unfold RelD at rd
  obtain ⟨a, rfl, ha⟩ := rd
  obtain ⟨b, eb, ev, hl, r⟩ := rh1.ob n _ hn
  rw [ha] at eb; cases eb
  exact ⟨a, o, rfl, .inr ⟨_, ev, f _ h1 m1 H1 _ s1 rh1 (itok_keysT ha hl) q1⟩⟩⟩
/-- sorted(d) -/
def wSortedT : WOL := fun ds h k => ∃ d ks es, ds = [d] ∧ DTat' d h ks es ∧ SrtOk (ks.map keyD) ∧ k (.lst (srtD (ks.map keyD))) h
open PySem.W (alike alikeAll dataLt AllAlike Sortable dataKind EachIs sortVals keyToks) in
theorem ol_sortedT {n : Nat} (hc : X.calm = true) (hr : Room n X.A) : OpL X (.builtin "sorted") wSortedT := by
  rintro pins s σ H xs us Q I r ⟨m, h, ds, k, rh, rd, ⟨d, ks, es, e, hd, so, q⟩, f⟩
  subst e
  obtain ⟨v, rfl, r1⟩ := rd.one
  obtain ⟨a, ws, rfl, hH, hlen, rws⟩ := hd.rel rh r1
  rw [Vals.ref1 r]
  obtain ⟨z, hs, xs', pr, o, es', ep, ho, hx, hdt, he, hn⟩ := (show ObjOk X.prog X.w H s.heap a (.dT (ks.zip ws)) from hH.ok I.hok)
  have l1 : es'.size = xs'.length := size_of_entries he
  have l2 : (ks.zip ws).length = xs'.length := Paired.length pr
  have hu := hr.un
  refine Calls.call_function_entry PyProof.Rows.kind_sorted PyProof.Rows.plain_sorted PyProof.Rows.entry_sorted (PyProof.Rows.args_sorted1 _) ?_
  unfold Builtin.«sorted»
  refine wpAny_bind (m := checkCount "sorted" 1 1 _) (wpAny_pure ?_)
  refine wpAny_bind (PySem.W.kdu_collect (A := X.A.in1) (kdl_raw hs hx hdt) (I.ok.hd hc) ho (by omega) fun h' tk acc hk it => ?_)
  have eb : acc.toList = (xs'.map fun x => x.2.1).map Value.ref := by
    have hl : acc.toList.length = xs'.length := by rw [Array.length_toList, it.1]; exact l1
    rw [List.map_map]
    apply List.ext_getElem?
    intro j
    rw [List.getElem?_map]
    cases hj : acc.toList[j]? with
    | none =>
      have h1 := List.getElem?_eq_none_iff.mp hj
      rw [List.getElem?_eq_none (by omega)]
      all_goals rfl
    | some v =>
      obtain ⟨en, hen, hv⟩ := it.2 j v (by rw [← Array.getElem?_toList]; exact hj)
      have qe := entry_at he j
      rw [hen] at qe
      cases hb : xs'[j]? with
      | none =>
        rw [hb] at qe
        exact nomatch (show some en = none from qe)
      | some b =>
        rw [hb] at qe
        have e2 : en = entryOfKey (tupleKind (mixKind X.prog X.w)) b := Option.some.inj qe
        rw [hv, e2]
        all_goals rfl
  have rk : RelDs X.K m H (ks.map keyD) ((xs'.map fun x => x.2.1).map V.ref) := rel_keys rh hlen (isKeys_of pr)
  have rv : Vals ((xs'.map fun x => x.2.1).map V.ref) acc.toList := by rw [eb]; exact vals_refs _
  have I1 : Inv X pins σ H { s with heap := h', toks := tk } := I.kept hk
  have hL : acc.toList.length ≤ sizeLine := by rw [Array.length_toList, it.1]; omega
  refine wpAny_bind (wpAny_newList ?_ hL)
  have hoL : (h'.push (seqObj "list" acc.toList.toArray 0)).get? h'.objs.size = some (seqObj "list" acc.toList.toArray 0) := Heap.get?_push_size _ rfl
  show wpAny _ _ _ _ _ { s with heap := h'.push (seqObj "list" acc.toList.toArray 0), toks := tk }
  generalize hh2 : h'.push (seqObj "list" acc.toList.toArray 0) = h2 at hoL ⊢
  have old : ∀ b ob, h'.get? b = some ob → (PySem.W.sortingHeap h2 h'.objs.size acc.toList).get? b = some ob := fun b ob e => PySem.W.sortingHeap_old (Nat.ne_of_lt (Heap.lt_size e)) (by rw [← hh2]; exact Heap.get?_push_of_some _ e)
  have e1 : EachIs (fun u d => ∃ v, RelV v u ∧ RelD X.K m H d v) acc.toList (ks.map keyD) := each_of rk rv
  have rds : ∀ u d, d ∈ ks.map keyD → (∃ v, RelV v u ∧ RelD X.K m H d v) → ∃ as, Reads (PySem.W.sortingHeap h2 h'.objs.size acc.toList) u (toPy d) as := fun u d hd ⟨v, h1, h2⟩ => by
    obtain ⟨as, r⟩ := Dp.reads I1 _ v u (h2.dp (so.it d hd).1) h1
    exact ⟨as, PySem.W.reads_keeps old r⟩
  have e2 : EachIs (fun u d => ∃ as, Reads (PySem.W.sortingHeap h2 h'.objs.size acc.toList) u d as) acc.toList ((ks.map keyD).map toPy) := by
    have : ∀ {us : List Value} {ds : List D}, (∀ d ∈ ds, d ∈ ks.map keyD) → EachIs (fun u d => ∃ v, RelV v u ∧ RelD X.K m H d v) us ds → EachIs (fun u d => ∃ as, Reads (PySem.W.sortingHeap h2 h'.objs.size acc.toList) u d as) us (ds.map toPy) := by
      intro us ds hs e
      induction e with
      | nil => exact .nil
      | cons a b ih => exact .cons (rds _ _ (hs _ List.mem_cons_self) a) (ih fun d hd => hs d (List.mem_cons_of_mem _ hd))
    exact this (fun d hd => hd) e1
  have S := PySem.W.SortsAt.data (prog := X.prog) (w := X.w) (A := X.A.in1.in1) (s := { s with heap := PySem.W.sortingHeap h2 h'.objs.size acc.toList, toks := tk }) e2 so.al so.so (fun d hd => by
    obtain ⟨x, hx, rfl⟩ := List.mem_map.mp hd
    have := (so.it x hx).2
    show X.A.units + 1 + 1 + _ < _
    omega)
  have e3 : EachIs (fun u d => (dataKind (PySem.W.sortingHeap h2 h'.objs.size acc.toList) ((ks.map keyD).map toPy)).keyOf u = some (keyToks (toPy d))) acc.toList (ks.map keyD) := by
    have : ∀ {us : List Value} {ds : List D}, (∀ d ∈ ds, d ∈ ks.map keyD) → EachIs (fun u d => ∃ v, RelV v u ∧ RelD X.K m H d v) us ds → EachIs (fun u d => (dataKind (PySem.W.sortingHeap h2 h'.objs.size acc.toList) ((ks.map keyD).map toPy)).keyOf u = some (keyToks (toPy d))) us ds := by
      intro us ds hs e
      induction e with
      | nil => exact .nil
      | cons a b ih =>
        obtain ⟨as, r⟩ := rds _ _ (hs _ List.mem_cons_self) a
        exact .cons (PySem.W.dataKind_some so.al (List.mem_map.mpr ⟨_, hs _ List.mem_cons_self, rfl⟩) r) (ih fun d hd => hs d (List.mem_cons_of_mem _ hd))
    exact this (fun d hd => hd) e1
  have e4 := PySem.W.sortVals_each (κ := dataKind (PySem.W.sortingHeap h2 h'.objs.size acc.toList) ((ks.map keyD).map toPy)) (rev := false) (fun d : D => keyToks (toPy d)) e1 e3
  have e5 : (ks.map keyD).mergeSort (PySem.W.sortLe (dataKind (PySem.W.sortingHeap h2 h'.objs.size acc.toList) ((ks.map keyD).map toPy)).toKeyOrd false fun d : D => keyToks (toPy d)) = srtD (ks.map keyD) := rfl
  rw [e5] at e4
  obtain ⟨zs, q1, q2⟩ := of_each e4
  have lz : zs.length ≤ sizeLine := by
    rw [← q2.length]
    unfold srtD
    rw [List.length_mergeSort, rk.length, rv.length]; exact hL
  refine wpAny_bind (wpAny_holding (wpAny_call_entry PyProof.Rows.slot_list_sort ⟨_, hoL, rfl⟩ PyProof.Rows.entry_list_sort
    (PySem.W.list_sort_vals (s := { s with heap := h2, toks := tk }) hoL S hL ⟨_, rfl, ?_⟩) (PyProof.Rows.args_list_sort _)))
  obtain ⟨e', he'⟩ := PyProof.Rows.sortedHeap_at (vs := acc.toList) (out := (sortVals (dataKind (PySem.W.sortingHeap h2 h'.objs.size acc.toList) ((ks.map keyD).map toPy)) false acc.toList acc.toList).toArray) hoL
  have hfr : H h'.objs.size = none := I1.hok.fresh (Nat.le_refl _)
  refine wpAny_pure ⟨_, rfl, .ref h'.objs.size, L2.upd H h'.objs.size (.lst zs), I1.laid (t' := tk) (fun b u e => ?_) (Nat.le_refl _) (show ObjOk X.prog X.w _ _ _ (.lst zs) from ⟨lz, _, e', q1, he'⟩), rfl, f.new rh hfr (.lstNew rh hfr q2) q⟩
  have hb : b < h'.objs.size := Heap.lt_size e
  rw [PyProof.Rows.sortedHeap_old (Nat.ne_of_lt hb) (by rw [← hh2, size_push']; exact Nat.lt_succ_of_lt hb), ← hh2]
  exact Heap.get?_push_of_some _ e
end
end Vf

namespace Vf
open PySem PySem.Spec PyProof.Rows L2
/-! ### the steps as the laws reckon them -/
def Chan.lawW (c : Chan) : List Str := (if c.old.wr = c.new.wr then [] else [wSwitch]) ++ (if c.old.nd = c.new.nd ∧ c.old.kn = c.new.kn then [] else if c.kind = kSplit then [wWiden, wNarrow] else [wRead])
theorem kind_free {c : Chan} (h1 : c.ona = true) (h2 : c.nao = true) : c.kind = kFree := by
  unfold Chan.kind; rw [h1, h2]; rfl
theorem kind_differs {c : Chan} (ho : OkFmt c.old) (hn : OkFmt c.new) (h : c.kind ≠ kFree) : c.old.wr ≠ c.new.wr ∧ ¬ (c.old.nd = c.new.nd ∧ c.old.kn = c.new.kn) := by
  have a1 := ho.acc
  have a2 := hn.acc
  constructor
  · intro e
    refine h (kind_free ?_ ?_)
    · show Vf.acc c.old.nd c.old.kn c.new.wr = true
      rw [← e]; exact a1
    · show Vf.acc c.new.nd c.new.kn c.old.wr = true
      rw [e]; exact a2
  · rintro ⟨e1, e2⟩
    refine h (kind_free ?_ ?_)
    · show Vf.acc c.old.nd c.old.kn c.new.wr = true
      rw [e1, e2]; exact a2
    · show Vf.acc c.new.nd c.new.kn c.old.wr = true
      rw [← e1, ← e2]; exact a1
theorem lawW_mem {c : Chan} (ho : OkFmt c.old) (hn : OkFmt c.new) (w : Str) : w ∈ c.lawW ↔ w ∈ c.wl := by
  have kn := kinds_ne
  obtain ⟨k1, k2, k3, k4⟩ := c.wl_kind
  rcases c.kind4 with e | e | e | e
  · unfold Chan.wl Chan.lawW
    rw [Chan.wl_free e, if_neg (c := c.kind = kSplit) (by rw [e]; decide +kernel)]
    by_cases e1 : c.old.wr = c.new.wr <;> by_cases e2 : c.old.nd = c.new.nd ∧ c.old.kn = c.new.kn
    · rw [if_pos e1, if_pos e1, if_pos e2, if_pos e2]; simp
    · rw [if_pos e1, if_pos e1, if_neg e2, if_neg e2]; simp
    · rw [if_neg e1, if_neg e1, if_pos e2, if_pos e2]; simp
    · rw [if_neg e1, if_neg e1, if_neg e2, if_neg e2]; simp
  · obtain ⟨d1, d2⟩ := kind_differs ho hn (by rw [e]; decide +kernel)
    unfold Chan.lawW
    rw [if_neg d1, if_neg d2, if_neg (by rw [e]; decide +kernel), k1 e]; simp [or_comm]
  · obtain ⟨d1, d2⟩ := kind_differs ho hn (by rw [e]; decide +kernel)
    unfold Chan.lawW
    rw [if_neg d1, if_neg d2, if_neg (by rw [e]; decide +kernel), k2 e]; simp
  · obtain ⟨d1, d2⟩ := kind_differs ho hn (by rw [e]; decide +kernel)
    unfold Chan.lawW
    rw [if_neg d1, if_neg d2, if_pos e, k3 e]; simp; constructor <;> (rintro (h | h | h) <;> simp [h])
theorem lawW_nodup (c : Chan) : c.lawW.Nodup := by
  unfold Chan.lawW
  split <;> split <;> first | decide +kernel | (split <;> decide +kernel)
def lawP (cs : List Chan) : List (Stp × Str) := cs.flatMap fun c => c.lawW.map fun w => ((c.nm, w), c.own w)
def stepK (s : Stp) : TKey := [.inr s.1, .inr s.2]
theorem keyD_step (s : Stp) : keyD (stepK s) = stepD s := rfl
theorem stepK_inj {s t : Stp} (h : stepK s = stepK t) : s = t := by
  unfold stepK at h
  simp only [List.cons.injEq, Sum.inr.injEq, and_true] at h
  exact Prod.ext h.1 h.2
def ksOf (l : List (Stp × Str)) : List TKey := l.map fun p => stepK p.1
def dsOf (l : List (Stp × Str)) : List D := l.map fun p => .str p.2
theorem put_fresh {l : List (Stp × Str)} {s : Stp} (h : ∀ p ∈ l, p.1 ≠ s) (o : Str) : putTs (stepK s) (ksOf l) = ksOf (l ++ [(s, o)]) ∧ putVT (stepK s) (.str o) (ksOf l) (dsOf l) = dsOf (l ++ [(s, o)]) := by
  have hn : ¬ hasT (stepK s) (ksOf l) = true := fun z => by
    obtain ⟨p, hp, e⟩ := List.mem_map.mp (hasT_iff.mp z)
    exact h p hp (stepK_inj e)
  unfold putTs putVT
  rw [if_neg hn, if_neg hn]
  unfold ksOf dsOf
  simp
theorem lawP_app (a b : List Chan) : lawP (a ++ b) = lawP a ++ lawP b := by unfold lawP; rw [List.flatMap_append]
theorem lawP_mem {cs : List Chan} {p : Stp × Str} : p ∈ lawP cs ↔ ∃ c ∈ cs, p.1.1 = c.nm ∧ p.1.2 ∈ c.lawW ∧ p.2 = c.own p.1.2 := by
  unfold lawP
  rw [List.mem_flatMap]
  constructor
  · rintro ⟨c, hc, h⟩
    obtain ⟨w, hw, rfl⟩ := List.mem_map.mp h
    exact ⟨c, hc, rfl, hw, rfl⟩
  · rintro ⟨c, hc, e1, e2, e3⟩
    refine ⟨c, hc, List.mem_map.mpr ⟨p.1.2, e2, ?_⟩⟩
    obtain ⟨⟨x, w⟩, o⟩ := p
    simp only at e1 e3 ⊢
    rw [e1, e3]
theorem lawP_len (cs : List Chan) : (lawP cs).length ≤ 3 * cs.length := by
  unfold lawP
  induction cs with
  | nil => simp
  | cons c cs ih =>
    rw [List.flatMap_cons, List.length_append, List.length_map, List.length_cons]
    have : c.lawW.length ≤ 3 := by unfold Chan.lawW; split <;> split <;> first | decide | (split <;> decide)
    omega
theorem lawP_nodup {svc : List Str} {cs : List Chan} (nd : (cs.map Chan.nm).Nodup) : ((lawP cs).map Prod.fst).Nodup := by
  induction cs with
  | nil => simp [lawP]
  | cons c cs ih =>
    rw [List.map_cons, List.nodup_cons] at nd
    rw [show c :: cs = [c] ++ cs from rfl, lawP_app, List.map_append, List.nodup_append]
    refine ⟨?_, ih nd.2, fun a ha b hb e => ?_⟩
    · unfold lawP
      simp only [List.flatMap_cons, List.flatMap_nil, List.append_nil, List.map_map]
      exact List.Pairwise.map _ (fun a b h e => h (Prod.ext_iff.mp e).2) (lawW_nodup c)
    · obtain ⟨p, hp, rfl⟩ := List.mem_map.mp ha
      obtain ⟨p', hp', rfl⟩ := List.mem_map.mp hb
      obtain ⟨d, hd, e1, _⟩ := lawP_mem.mp hp
      obtain ⟨d', hd', e1', _⟩ := lawP_mem.mp hp'
      rw [List.mem_singleton] at hd
      subst hd
      exact nd.1 (List.mem_map.mpr ⟨d', hd', by rw [← e1', ← e, e1]⟩)
/-- all of them in order: the program's -/
theorem lawP_all {svc : List Str} {cs : List Chan} (ho : OkSys svc cs) : sortS ((lawP cs).map Prod.fst) = allS cs := by
  refine ascS_ext (sortS_asc (lawP_nodup (svc := svc) ho.casc.nodup)) ho.allS_asc fun s => ?_
  rw [(sortS_perm _).mem_iff, allS_mem, List.mem_map]
  constructor
  · rintro ⟨p, hp, rfl⟩
    obtain ⟨c, hc, e1, e2, _⟩ := lawP_mem.mp hp
    have oc := ho.ch c hc
    exact ⟨c, hc, e1, (lawW_mem oc.old oc.new _).mp e2⟩
  · rintro ⟨c, hc, e1, e2⟩
    have oc := ho.ch c hc
    exact ⟨(s, c.own s.2), lawP_mem.mpr ⟨c, hc, e1, (lawW_mem oc.old oc.new _).mpr e2, rfl⟩, rfl⟩
/-- those of one service -/
theorem lawP_own {svc : List Str} {cs : List Chan} (ho : OkSys svc cs) (x : Str) : sortS (((lawP cs).filter fun p => decide (p.2 = x)).map Prod.fst) = ownS cs x := by
  refine ascS_ext (sortS_asc ((List.filter_sublist.map _).nodup (lawP_nodup (svc := svc) ho.casc.nodup))) (ho.ownS_asc x) fun s => ?_
  rw [(sortS_perm _).mem_iff, ownS_mem, List.mem_map]
  constructor
  · rintro ⟨p, hp, rfl⟩
    obtain ⟨hp, e⟩ := List.mem_filter.mp hp
    obtain ⟨c, hc, e1, e2, e3⟩ := lawP_mem.mp hp
    have oc := ho.ch c hc
    exact ⟨c, hc, e1, (lawW_mem oc.old oc.new _).mp e2, by rw [← e3]; simpa using e⟩
  · rintro ⟨c, hc, e1, e2, e3⟩
    have oc := ho.ch c hc
    exact ⟨(s, c.own s.2), List.mem_filter.mpr ⟨lawP_mem.mpr ⟨c, hc, e1, (lawW_mem oc.old oc.new _).mpr e2, rfl⟩, by simpa using e3⟩, rfl⟩
theorem atT_of {l : List (Stp × Str)} : ∀ {p : Stp × Str}, (l.map Prod.fst).Nodup → p ∈ l → atT (stepK p.1) (ksOf l) (dsOf l) = some (.str p.2) := by
  induction l with
  | nil => intro p _ h; exact nomatch h
  | cons q l ih =>
    intro p nd h
    rw [List.map_cons, List.nodup_cons] at nd
    unfold ksOf dsOf
    rw [List.map_cons, List.map_cons]
    unfold atT
    by_cases e : stepK q.1 = stepK p.1
    · rw [if_pos e]
      have e' := stepK_inj e
      rcases List.mem_cons.mp h with h | h
      · rw [h]
      · exact absurd (List.mem_map.mpr ⟨p, h, e'.symm⟩) nd.1
    · rw [if_neg e]
      rcases List.mem_cons.mp h with h | h
      · rw [h] at e; exact absurd rfl e
      · exact ih nd.2 h
end Vf

namespace Vf
open PySem PySem.Spec PyProof.Rows L2
section
variable {X : Cx}
theorem countP_strs (k : Str) : ∀ {vs : List Value} {ys : List Str}, StrsAre vs ys → vs.countP (PyProof.Rows.isStrOf k) = ys.count k
  | _, _, .nil => rfl
  | _, _, .cons n t h => by
    rw [List.countP_cons, List.count_cons, countP_strs k h]
    rfl
/-- xs.count(x), texts -/
def wmCount : WM := fun d ds h k => ∃ (xs : List Str) (y : Str), d = .lst (xs.map .str) ∧ ds = [.str y] ∧ k (.int (xs.count y : Nat)) h
theorem mt_countD : MtR X "list.count" (rM X.K wmCount) := by
  rintro pins s σ H x xs v us Q I rx rv ⟨m, h, d, ds, k, rh, rd, rds, ⟨ys, y, e1, e2, q⟩, fo⟩
  subst e1 e2
  obtain ⟨z, rfl, rz⟩ := rds.one
  unfold RelD at rd rz
  obtain ⟨a, vs, rfl, ta, ra⟩ := rd
  subst rz
  rw [rel_strs ra] at ta
  cases rx
  obtain ⟨u, rfl, ru⟩ := rv.one
  obtain ⟨t, rfl⟩ := ru
  obtain ⟨its, rvv, ⟨⟨cls, dd, data, sl⟩, n, ho, hc, hdn, hd⟩, hlen⟩ := I.list ta.sq
  simp only at hc hd
  subst hc hd
  have hi : StrsAre its ys := Vals.strs rvv
  refine call_meets PySem.F.slot_list_count ⟨_, ho, rfl⟩ PySem.F.entry_list_count (PySem.F.args_list_count_2 _ _)
    (SeqAt.list_countAt a its.toArray n dd sl (.str y t) (PyProof.Rows.isStrOf y)) ⟨ho, fun w hw => (PyProof.Rows.eq_isStrOf y t hi w (by simpa using hw)).at _ _, ?_⟩
  have ec : its.toArray.toList.countP (PyProof.Rows.isStrOf y) = ys.count y := countP_strs y hi
  refine ⟨.int (ys.count y : Nat), H, I.tok _, ⟨s.toks, ?_⟩, fo.now rh (.intI _) q⟩
  show Value.int ((its.toArray.toList.countP (PyProof.Rows.isStrOf y) : Nat) : Int) s.toks = Value.int ((ys.count y : Nat) : Int) s.toks
  rw [ec]
/-- sorted(d), its keys texts -/
def wSortedK : WOL := fun ds h k => ∃ (d : D) (ks : List Str) (es : List D), ds = [d] ∧ DKat d h (ks.map Sum.inr) es ∧ ks.length < 64 ∧ ∀ ys : List Str, ys.Perm ks → sortedS ys = true → k (.lst (ys.map .str)) h
theorem ol_sortedK (hc : X.calm = true) : OpL X (.builtin "sorted") wSortedK := by
  rintro pins s σ H xs us Q I r ⟨m, h, ds, k, rh, rd, ⟨d, ks, es, e, hd, h64, q⟩, f⟩
  subst e
  obtain ⟨v, rfl, r1⟩ := rd.one
  obtain ⟨a, vs, rfl, ha, hl, rv⟩ := hd.rel rh r1
  refine call_sortedD hc pins s σ H _ us Q I r ⟨a, _, ks, rfl, .inl ha, by rw [List.map_fst_zip (by omega)], h64, fun ys p hp hs hn => f.new rh hn (.lstNew rh hn (strs_rel ys)) (q ys hp hs)⟩
end
end Vf

namespace Vf
open PySem PySem.Spec PyProof.Rows L2
/-- what is there stays -/
theorem Step.grow {K : PySem.W.Frag} {m : Lay} {H H2 : Hp} {h : DH} (r : RelH K m H h) (g : ∀ b o, H b = some o → H2 b = some o) : Step m H m H2 :=
  ⟨⟨⟨[], by simp⟩, fun a h n => absurd h n, fun a u _ e => g a u e⟩, rfl, fun a ha => by
    obtain ⟨u, e, _⟩ := r.tr a ha
    rw [e, g a u e]⟩
theorem RelH.grow {K : PySem.W.Frag} {m : Lay} {H H2 : Hp} {h : DH} (r : RelH K m H h) (g : ∀ b o, H b = some o → H2 b = some o) : RelH K m H2 h := by
  refine ⟨r.len, r.nd, r.dj, fun a ha => ?_, fun i u e => ?_⟩
  · obtain ⟨u, e, nt⟩ := r.tr a ha
    exact ⟨u, g a u e, nt⟩
  · obtain ⟨a, ea, q⟩ := r.ob i u e
    obtain ⟨z, e1⟩ := q.some
    exact ⟨a, ea, q.keep (Step.grow r g).mv (by rw [e1, g a z e1])⟩
def pairD (ks : List Str) (ds : List D) : List D := (ks.zip ds).map fun p => .tup [.str p.1, p.2]
theorem rel_pairs {K : PySem.W.Frag} {m : Lay} {H : Hp} : ∀ {ks : List Str} {ds : List D} {vs : List V} {as : List Addr}, ks.length = vs.length → as.length = ks.length → RelDs K m H ds vs →
    (∀ (j : Nat) (a : Addr), as[j]? = some a → ∃ k v, ks[j]? = some k ∧ vs[j]? = some v ∧ ¬ m.pr a ∧ H a = some (.tup [.str k, v])) → RelDs K m H (pairD ks ds) (as.map V.ref)
  | [], ds, vs, as, h1, h2, r, q => by
    have : as = [] := List.length_eq_zero_iff.mp h2
    subst this
    unfold pairD
    rw [List.zip_nil_left]
    unfold List.map RelDs; rfl
  | k :: ks, ds, [], as, h1, h2, r, q => by simp at h1
  | k :: ks, ds, v :: vs, [], h1, h2, r, q => by simp at h2
  | k :: ks, [], v :: vs, a :: as, h1, h2, r, q => by unfold RelDs at r; cases r
  | k :: ks, d :: ds, v :: vs, a :: as, h1, h2, r, q => by
    unfold RelDs at r
    obtain ⟨v', r', e, rd, rs⟩ := r
    cases e
    obtain ⟨k', v', e1, e2, n, e3⟩ := q 0 a rfl
    cases e1; cases e2
    have t : RelDs K m H (pairD ks ds) (as.map V.ref) := rel_pairs (by simpa using h1) (by simpa using h2) rs fun j b hj => q (j + 1) b (by simpa using hj)
    show RelDs K m H (.tup [.str k, d] :: pairD ks ds) (V.ref a :: as.map V.ref)
    unfold RelDs
    refine ⟨_, _, rfl, ?_, t⟩
    unfold RelD
    exact ⟨a, _, rfl, .inl ⟨n, .inl e3⟩, by
      unfold RelDs
      exact ⟨_, _, rfl, by unfold RelD; rfl, by unfold RelDs; exact ⟨_, _, rfl, rd, by unfold RelDs; rfl⟩⟩⟩
section
variable {X : Cx}
def rItemsK : V → List V → Hp → VK → Prop := fun x xs H Q => ∃ (a : Addr) (kvs : List (Key × V)), x = .ref a ∧ xs = [] ∧ H a = some (.dK kvs) ∧ ∀ p, H p = none → Q (.ref p) (L2.upd H p (DX.itemsO p a))
theorem mt_itemsK : MtR X "dict.items" rItemsK := by
  intro pins s σ H x xs v us Q I rx rxs h
  obtain ⟨a, kvs, rfl, rfl, ha, q⟩ := h
  cases rx
  cases rxs
  obtain ⟨z, lo, vs, rel, o, es, ep, ho, hx, hdat, _⟩ := dk_of I.hok ha
  refine _root_.DT.callItems (es := es) (ep := ep) lo ⟨o, ho, hx, hdat⟩ ?_
  have hf : H s.heap.objs.size = none := I.hok.fresh (Nat.le_refl _)
  exact ⟨.ref s.heap.objs.size, L2.upd H s.heap.objs.size (DX.itemsO s.heap.objs.size a), I.laid (t' := s.toks) (fun b u e => Heap.get?_push_of_some _ e) (Nat.le_refl _) (DX.itemsO_ok (Heap.get?_push_size _ rfl)), rfl, q _ hf⟩
def rSortItK (K : PySem.W.Frag) : List V → Hp → VK → Prop := fun us H Q => ∃ (p a : Addr) (m : Lay) (h : DH) (ks : List Str) (ds : List D) (vs : List V) (k : K1), us = [.ref p] ∧ H p = some (DX.itemsO p a) ∧ H a = some (.dK ((ks.map Sum.inr).zip vs)) ∧ ks.length = vs.length ∧
  RelH K m H h ∧ RelDs K m H ds vs ∧ SrtOk (pairD ks ds) ∧ k (.lst (srtD (pairD ks ds))) h ∧ Fol K m H k Q
open PySem.W (alike alikeAll dataLt AllAlike Sortable dataKind EachIs sortVals keyToks) in
theorem cr_sortItK {n : Nat} (hc : X.calm = true) (hr : Room n X.A) : CallR X (.builtin "sorted") (rSortItK X.K) := by
  rintro pins s σ H xs us Q I r ⟨p, a, m, h, ks, ds, ws, k, rfl, hp, ha, hlen, rh, rds0, so, q, f⟩
  obtain rfl := Vals.ref1 r
  have view : s.heap.IsItemsView p a := (show ObjOk X.prog X.w H s.heap p (DX.itemsO p a) from I.hok p _ hp).1
  obtain ⟨z, lo, vs, rel, o, es, ep, ho, hx, hdat, hko, hpr, hnd⟩ := dk_of I.hok ha
  have l0 : ((ks.map Sum.inr : List Key).zip ws).length = vs.length := Paired.length rel
  have l1 : es.toList.length = vs.length := Pairs.length hpr
  have lz : ks.length = vs.length := by rw [← l0]; simp; omega
  have l2 : es.size = ks.length := by rw [← Array.length_toList]; omega
  have hu := hr.un
  refine _root_.DT.sortedI (es := es) (ep := ep) (I.ok.hd hc) view ⟨o, ho, hx, hdat⟩ (by rw [l2]; have : ((ks.map Sum.inr : List Key).zip ws).length ≤ sizeLine := z; omega) fun h' tk as hk hlt hl hG => ?_
  have nd : as.Nodup := List.Pairwise.imp (fun h => Nat.ne_of_lt h) hG.rise
  have pr : ∀ (j : Nat) (b : Addr), as[j]? = some b → ∃ (x : Str) (v : V) (t : Tok) (u : Value), ks[j]? = some x ∧ ws[j]? = some v ∧ RelV v u ∧ h'.get? b = some { cls := .type "tuple", data := .seq #[Value.str x t, u] } := by
    intro j b hj
    obtain ⟨en, he, hg⟩ := hG.pairs j b hj
    have hjl : j < vs.length := by
      have := (List.getElem?_eq_some_iff.mp hj).1
      omega
    obtain ⟨kv, hkv⟩ : ∃ kv, vs[j]? = some kv := ⟨_, List.getElem?_eq_getElem hjl⟩
    obtain ⟨y, hy, ey, ry⟩ := DX.pget rel hkv
    obtain ⟨h1, h2⟩ := List.getElem?_zip_eq_some.mp hy
    rw [List.getElem?_map] at h1
    cases hks : ks[j]? with
    | none => rw [hks] at h1; cases h1
    | some x =>
      rw [hks] at h1
      have ex : Sum.inr x = y.1 := Option.some.inj h1
      have := Pairs.get? hpr (i := j) (e := en) (k := kv.1) (v := kv.2) (by rw [Array.getElem?_toList]; exact he) hkv
      obtain ⟨e1, e2⟩ := this
      rw [← ey, ← ex] at e1
      obtain ⟨t, et⟩ := Value.isStrOf_shape (x := x) (v := en.key) e1
      refine ⟨x, y.2, t, kv.2, rfl, h2, ry, ?_⟩
      rw [hg, et, e2]
  have I1 : Inv X pins σ H { s with heap := h', toks := tk } := I.kept hk
  obtain ⟨H2, I2, gr, qt⟩ := DX.takeT (P := fun b us => ∃ (j : Nat) (x : Str) (v : V), as[j]? = some b ∧ ks[j]? = some x ∧ ws[j]? = some v ∧ us = [.str x, v]) I as H I1 nd fun b hb => by
    obtain ⟨j, hj⟩ := List.mem_iff_getElem?.mp hb
    obtain ⟨x, v, t, u, e1, e2, ru, hg⟩ := pr j b hj
    have hbl : s.heap.objs.size ≤ b := Nat.le_of_lt (hG.above b hb)
    exact ⟨hbl, I.hok.fresh hbl, [.str x, v], ⟨j, x, v, hj, e1, e2, rfl⟩, fun H3 => ⟨(by rw [sizeLine_eq]; show 2 ≤ 16777216; omega), [Value.str x t, u], .cons ⟨t, rfl⟩ (.cons ru .nil), ⟨_, hg, rfl, 0, rfl⟩⟩⟩
  have rh2 : RelH X.K m H2 h := rh.grow gr
  have st2 : Step m H m H2 := Step.grow rh gr
  have rk : RelDs X.K m H2 (pairD ks ds) (as.map V.ref) := rel_pairs hlen (by omega) (rds0.step st2) fun j b hj => by
    obtain ⟨us, ⟨j', x, v, e1, e2, e3, rfl⟩, hb⟩ := qt b (List.mem_of_getElem? hj)
    have : j = j' := (List.getElem?_inj (List.getElem?_eq_some_iff.mp hj).1 nd).mp (hj.trans e1.symm)
    subst this
    exact ⟨x, v, e2, e3, rh2.tupFree hb, hb⟩
  have rv : Vals (as.map V.ref) (as.map Value.ref) := vals_refs _
  have hL : (as.map Value.ref).length ≤ sizeLine := by
    rw [List.length_map, hl, l2]; have : ((ks.map Sum.inr : List Key).zip ws).length ≤ sizeLine := z; omega
  have hoL : (h'.push { cls := .type "list", data := .seq (as.map Value.ref).toArray }).get? h'.objs.size = some (seqObj "list" (as.map Value.ref).toArray 0) := Heap.get?_push_size _ rfl
  generalize hh2 : h'.push { cls := .type "list", data := .seq (as.map Value.ref).toArray } = h2 at hoL ⊢
  generalize hav : as.map Value.ref = av at hoL rv hL hh2 ⊢
  have old : ∀ b ob, h'.get? b = some ob → (PySem.W.sortingHeap h2 h'.objs.size av).get? b = some ob := fun b ob e => PySem.W.sortingHeap_old (Nat.ne_of_lt (Heap.lt_size e)) (by rw [← hh2]; exact Heap.get?_push_of_some _ e)
  generalize hPD : pairD ks ds = pd at rk so q
  have e1 : EachIs (fun u d => ∃ v, RelV v u ∧ RelD X.K m H2 d v) av pd := each_of rk rv
  have rds : ∀ u d, d ∈ pd → (∃ v, RelV v u ∧ RelD X.K m H2 d v) → ∃ as, Reads (PySem.W.sortingHeap h2 h'.objs.size av) u (toPy d) as := fun u d hd ⟨v, h1, h2⟩ => by
    obtain ⟨as, r⟩ := Dp.reads I2 _ v u (h2.dp (so.it d hd).1) h1
    exact ⟨as, PySem.W.reads_keeps old r⟩
  have e2 : EachIs (fun u d => ∃ as, Reads (PySem.W.sortingHeap h2 h'.objs.size av) u d as) av (pd.map toPy) := by
    have : ∀ {us : List Value} {ds : List D}, (∀ d ∈ ds, d ∈ pd) → EachIs (fun u d => ∃ v, RelV v u ∧ RelD X.K m H2 d v) us ds → EachIs (fun u d => ∃ as, Reads (PySem.W.sortingHeap h2 h'.objs.size av) u d as) us (ds.map toPy) := by
      intro us ds hs e
      induction e with
      | nil => exact .nil
      | cons a b ih => exact .cons (rds _ _ (hs _ List.mem_cons_self) a) (ih fun d hd => hs d (List.mem_cons_of_mem _ hd))
    exact this (fun d hd => hd) e1
  have S := PySem.W.SortsAt.data (prog := X.prog) (w := X.w) (A := X.A.in1.in1) (s := { s with heap := PySem.W.sortingHeap h2 h'.objs.size av, toks := tk }) e2 so.al so.so (fun d hd => by
    obtain ⟨x, hx, rfl⟩ := List.mem_map.mp hd
    have := (so.it x hx).2
    show X.A.units + 1 + 1 + _ < _
    omega)
  have e3 : EachIs (fun u d => (dataKind (PySem.W.sortingHeap h2 h'.objs.size av) (pd.map toPy)).keyOf u = some (keyToks (toPy d))) av pd := by
    have : ∀ {us : List Value} {ds : List D}, (∀ d ∈ ds, d ∈ pd) → EachIs (fun u d => ∃ v, RelV v u ∧ RelD X.K m H2 d v) us ds → EachIs (fun u d => (dataKind (PySem.W.sortingHeap h2 h'.objs.size av) (pd.map toPy)).keyOf u = some (keyToks (toPy d))) us ds := by
      intro us ds hs e
      induction e with
      | nil => exact .nil
      | cons a b ih =>
        obtain ⟨as, r⟩ := rds _ _ (hs _ List.mem_cons_self) a
        exact .cons (PySem.W.dataKind_some so.al (List.mem_map.mpr ⟨_, hs _ List.mem_cons_self, rfl⟩) r) (ih fun d hd => hs d (List.mem_cons_of_mem _ hd))
    exact this (fun d hd => hd) e1
  have e4 := PySem.W.sortVals_each (κ := dataKind (PySem.W.sortingHeap h2 h'.objs.size av) (pd.map toPy)) (rev := false) (fun d : D => keyToks (toPy d)) e1 e3
  have e5 : pd.mergeSort (PySem.W.sortLe (dataKind (PySem.W.sortingHeap h2 h'.objs.size av) (pd.map toPy)).toKeyOrd false fun d : D => keyToks (toPy d)) = srtD pd := rfl
  rw [e5] at e4
  obtain ⟨zs, q1, q2⟩ := of_each e4
  have lz : zs.length ≤ sizeLine := by
    rw [← q2.length]
    unfold srtD
    rw [List.length_mergeSort, rk.length, rv.length]; exact hL
  refine wpAny_call_entry PyProof.Rows.slot_list_sort ⟨_, hoL, rfl⟩ PyProof.Rows.entry_list_sort
    (PySem.W.list_sort_vals (s := { s with heap := h2, toks := tk }) hoL S hL ⟨_, rfl, ?_⟩) (PyProof.Rows.args_list_sort _)
  obtain ⟨e', he'⟩ := PyProof.Rows.sortedHeap_at (vs := av) (out := (sortVals (dataKind (PySem.W.sortingHeap h2 h'.objs.size av) (pd.map toPy)) false av av).toArray) hoL
  have hfr : H2 h'.objs.size = none := I2.hok.fresh (Nat.le_refl _)
  refine ⟨.ref h'.objs.size, L2.upd H2 h'.objs.size (.lst zs), I2.laid (t' := tk) (fun b u e => ?_) (Nat.le_refl _) (show ObjOk X.prog X.w _ _ _ (.lst zs) from ⟨lz, _, e', q1, he'⟩), rfl, (f.step st2).new rh2 hfr (.lstNew rh2 hfr q2) q⟩
  have hb : b < h'.objs.size := Heap.lt_size e
  rw [PyProof.Rows.sortedHeap_old (Nat.ne_of_lt hb) (by rw [← hh2, size_push']; exact Nat.lt_succ_of_lt hb), ← hh2]
  exact Heap.get?_push_of_some _ e
/-- sorted(e.items()) -/
def wSortIt (w : W1) : W1 := fun ρ h k => w ρ h fun d h1 => ∃ (ks : List Str) (es : List D), DKat d h1 (ks.map Sum.inr) es ∧ SrtOk (pairD ks es) ∧ k (.lst (srtD (pairD ks es))) h1
theorem de_sortIt {n : Nat} (hc : X.calm = true) (hr : Room n X.A) {o : Expr} {w : W1} {x : Str} {p pos apos cpos : Pos} (hg : Gl X x) (hm : X.mg x = none) (hv : bootBuiltins x = some (.builtin "sorted")) (ho : DE X o w)
    (hbase : attributeBase o "items" X.env (eval o X.env) = eval o X.env := by rfl) (hline : (apos.endLine == cpos.line) = true := by rfl)
    (hn : x ≠ "__name__" := by decide) (hdb : (x == ("__debug__" : Str)) = false := by decide)
    (he : starEach [.Call (.Attribute o "items" apos) [] [] cpos] X.env = (false, eval (.Call (.Attribute o "items" apos) [] [] cpos) X.env) :: starEach [] X.env := by rfl) (hpl : (backTo pos (starEach [] X.env)).any (·.1) = false := by rfl) :
    DE X (.Call (.Name x p) [.Call (.Attribute o "items" apos) [] [] cpos] [] pos) (wSortIt w) :=
  PE.imp (pe_callB (cr_sortItK hc hr) hg hm hv (pa_cons (pe_bm0 PySem.F.plainAttrs_dict PySem.F.slot_dict_items PySem.F.type_dict_items mt_itemsK ho hbase hline) pa_nil he) hn hdb he hpl) fun σ H Q ⟨m, ρ, h, k, rs, rh, q, c⟩ => ⟨m, ρ, h, _, rs, rh, q, fun d h1 v m1 H1 s1 rh1 rd ⟨ks, es, hd, so, q1⟩ => by
    obtain ⟨a, vs, rfl, ha, hl, rv⟩ := hd.rel rh1 rd
    refine ⟨.inr (.inr (.inl ⟨rfl, .inl ⟨_, ha⟩⟩)), a, _, rfl, rfl, ha, fun p hp => ?_⟩
    have sn : Step m1 H1 m1 (L2.upd H1 p (DX.itemsO p a)) := Step.new rh1 _ hp
    exact ⟨p, a, m1, h1, ks, es, vs, k, rfl, upd_same, by rw [upd_ne (ne_of_none ha hp)]; exact ha, by simpa using hl, rh1.new _ hp, rv.step sn, so, q1, fun d' h' v' m' H' s' rh' rd' q' => c d' h' v' m' H' ((s1.trans sn).trans s') rh' rd' q'⟩⟩
end
end Vf

namespace Vf
open PySem PySem.Spec PyProof.Rows L2
/-! ### a dict with text keys whose values are a function of the key -/
def insK (x : Str) (ks : List Str) : List Str := if x ∈ ks then ks else ks ++ [x]
theorem insK_mem {x y : Str} {ks : List Str} : y ∈ insK x ks ↔ y = x ∨ y ∈ ks := by
  unfold insK
  by_cases h : x ∈ ks
  · rw [if_pos h]
    exact ⟨.inr, fun e => e.elim (fun e => e ▸ h) id⟩
  · rw [if_neg h]; simp [or_comm]
theorem insK_nodup {x : Str} {ks : List Str} (h : ks.Nodup) : (insK x ks).Nodup := by
  unfold insK
  by_cases e : x ∈ ks
  · rw [if_pos e]; exact h
  · rw [if_neg e, List.nodup_append]
    exact ⟨h, by simp, fun a ha b hb => by rw [List.mem_singleton.mp hb]; exact fun z => e (z ▸ ha)⟩
theorem atK_fn {α : Type} (x : Str) (f : Str → α) : ∀ ks : List Str, atK (Sum.inr x) (ks.map Sum.inr) (ks.map f) = if x ∈ ks then some (f x) else none
  | [] => by unfold List.map atK; rfl
  | k :: ks => by
    rw [List.map_cons, List.map_cons]; unfold atK
    by_cases h : k = x
    · subst h; rw [if_pos rfl, if_pos (by simp)]
    · rw [if_neg (fun e => h (Sum.inr.inj e)), atK_fn x f ks]
      by_cases h2 : x ∈ ks
      · rw [if_pos h2, if_pos (by simp [h2])]
      · rw [if_neg h2, if_neg (by simp [h2, Ne.symm h])]
theorem hasK_map (x : Str) (ks : List Str) : hasK (Sum.inr x) (ks.map Sum.inr) = true ↔ x ∈ ks := by
  rw [hasK_iff, List.mem_map]
  exact ⟨fun ⟨a, h, e⟩ => Sum.inr.inj e ▸ h, fun h => ⟨x, h, rfl⟩⟩
theorem putKs_map (x : Str) (ks : List Str) : putKs (Sum.inr x) (ks.map Sum.inr) = (insK x ks).map Sum.inr := by
  unfold putKs insK
  by_cases h : x ∈ ks
  · rw [if_pos ((hasK_map x ks).mpr h), if_pos h]
  · rw [if_neg (fun z => h ((hasK_map x ks).mp z)), if_neg h]; simp
theorem putVs_map {α : Type} (x : Str) (v : α) (f : Str → α) (ks : List Str) : putVs (Sum.inr x) v (ks.map Sum.inr) (ks.map f) = (insK x ks).map fun o => if o = x then v else f o := by
  unfold putVs insK
  by_cases h : x ∈ ks
  · rw [if_pos ((hasK_map x ks).mpr h), if_pos h, List.zip_map', List.map_map]
    refine List.map_congr_left fun o _ => ?_
    show (if (Sum.inr o : Key) = Sum.inr x then v else f o) = _
    by_cases e : o = x
    · rw [if_pos (by rw [e]), if_pos e]
    · rw [if_neg (fun z => e (Sum.inr.inj z)), if_neg e]
  · rw [if_neg (fun z => h ((hasK_map x ks).mp z)), if_neg h, List.map_append]
    congr 1
    · exact List.map_congr_left fun o ho => (if_neg (fun e : o = x => h (e ▸ ho))).symm
    · simp
theorem nodup_sub_len : ∀ {xs ys : List Str}, xs.Nodup → (∀ x ∈ xs, x ∈ ys) → xs.length ≤ ys.length
  | [], ys, _, _ => by simp
  | x :: xs, ys, nd, h => by
    rw [List.nodup_cons] at nd
    have h1 := h x List.mem_cons_self
    have h2 := nodup_sub_len (ys := ys.erase x) nd.2 fun y hy => (List.mem_erase_of_ne (fun e : y = x => nd.1 (e ▸ hy))).mpr (h y (List.mem_cons_of_mem _ hy))
    rw [List.length_erase_of_mem h1] at h2
    have := List.length_pos_of_mem h1
    simp only [List.length_cons]; omega
/-! ### releases that services need -/
def Chan.least (c : Chan) : Nat := if c.snd = c.rcv then (if c.kind = kFree then 1 else if c.kind = kSplit then 3 else 2) else if c.kind = kSplit then 2 else 1
def needS (cs : List Chan) (o : Str) : Nat := cs.foldl (fun n c => if c.rcv = o then max n c.least else n) 1
theorem needS_snoc (cs : List Chan) (c : Chan) (o : Str) : needS (cs ++ [c]) o = if c.rcv = o then max (needS cs o) c.least else needS cs o := by
  unfold needS; rw [List.foldl_append]; rfl
def cntF (o : Str) (n : Nat) (l : List Str) : Nat := max n (l.count o)
def cntS (L : List (List Str)) (o : Str) : Nat := L.foldl (cntF o) 1
theorem cntS_snoc (L : List (List Str)) (l : List Str) (o : Str) : cntS (L ++ [l]) o = max (cntS L o) (l.count o) := by
  unfold cntS; rw [List.foldl_append]; rfl
def Chan.ownL (c : Chan) : List (List Str) := c.words.map fun ws => ws.map c.own
theorem ownL_cnt (c : Chan) (o : Str) (n : Nat) (hn : 1 ≤ n) : c.ownL.foldl (cntF o) n = if c.rcv = o then max n c.least else n := by
  have kn := kinds_ne
  have wn := words_ne
  have o1 : c.own wRead = c.rcv := if_neg wn.1
  have o2 : c.own wSwitch = c.snd := if_pos rfl
  have o3 : c.own wWiden = c.rcv := if_neg wn.2.2.2.1.symm
  have o4 : c.own wNarrow = c.rcv := if_neg wn.2.2.2.2.1.symm
  unfold Chan.ownL
  have two : ∀ x y : Str, [x, y].count o = (if x = o then 1 else 0) + (if y = o then 1 else 0) := fun x y => by
    rw [List.count_cons, List.count_cons, List.count_nil]; simp only [beq_iff_eq]; omega
  have one : ∀ x : Str, [x].count o ≤ 1 := fun x => by
    rw [List.count_cons, List.count_nil]; split <;> omega
  have three : ∀ x y z : Str, [x, y, z].count o = (if x = o then 1 else 0) + (if y = o then 1 else 0) + (if z = o then 1 else 0) := fun x y z => by
    rw [List.count_cons, List.count_cons, List.count_cons, List.count_nil]; simp only [beq_iff_eq]; omega
  rcases c.kind4 with e | e | e | e
  · rw [c.wl_free e]
    have hl : c.least = 1 := by unfold Chan.least; simp [e, kn.2.2.1]
    have h1 : ∀ (L : List (List Str)), (∀ l ∈ L, l.count o ≤ 1) → L.foldl (cntF o) n = n := by
      intro L
      induction L with
      | nil => intro _; rfl
      | cons l L ih =>
        intro h
        have h2 := h l List.mem_cons_self
        rw [List.foldl_cons, show cntF o n l = n by unfold cntF; omega]
        exact ih fun x hx => h x (List.mem_cons_of_mem _ hx)
    rw [h1, hl]
    · split <;> omega
    · intro l hl
      obtain ⟨ws, hw, rfl⟩ := List.mem_map.mp hl
      rcases List.mem_append.mp hw with h | h
      · split at h
        · cases h
        · rw [List.mem_singleton.mp h]; exact one _
      · split at h
        · cases h
        · rw [List.mem_singleton.mp h]; exact one _
  · have hl : c.least = if c.snd = c.rcv then 2 else 1 := by
      unfold Chan.least; simp [e, kn.1.symm, kn.2.2.2.2.1]
    unfold Chan.words
    rw [if_pos e, hl]
    show cntF o n [c.own wRead, c.own wSwitch] = _
    unfold cntF
    rw [o1, o2, two]
    by_cases h1 : c.rcv = o <;> by_cases h2 : c.snd = o
    · rw [if_pos h1, if_pos h2, if_pos h1, if_pos (h2.trans h1.symm)]
    · rw [if_pos h1, if_neg h2, if_pos h1, if_neg (fun z => h2 (z.trans h1))]
    · rw [if_neg h1, if_pos h2, if_neg h1]; omega
    · rw [if_neg h1, if_neg h2, if_neg h1]; omega
  · have hl : c.least = if c.snd = c.rcv then 2 else 1 := by
      unfold Chan.least; simp [e, kn.2.1.symm, kn.2.2.2.2.2]
    unfold Chan.words
    rw [if_neg (by rw [e]; exact kn.2.2.2.1.symm), if_pos e, hl]
    show cntF o n [c.own wSwitch, c.own wRead] = _
    unfold cntF
    rw [o1, o2, two]
    by_cases h1 : c.rcv = o <;> by_cases h2 : c.snd = o
    · rw [if_pos h1, if_pos h2, if_pos h1, if_pos (h2.trans h1.symm)]
    · rw [if_pos h1, if_neg h2, if_pos h1, if_neg (fun z => h2 (z.trans h1))]
    · rw [if_neg h1, if_pos h2, if_neg h1]; omega
    · rw [if_neg h1, if_neg h2, if_neg h1]; omega
  · have hl : c.least = if c.snd = c.rcv then 3 else 2 := by
      unfold Chan.least; simp [e, kn.2.2.1.symm]
    unfold Chan.words
    rw [if_neg (by rw [e]; exact kn.2.2.2.2.1.symm), if_neg (by rw [e]; exact kn.2.2.2.2.2.symm), if_pos e, hl]
    show cntF o n [c.own wWiden, c.own wSwitch, c.own wNarrow] = _
    unfold cntF
    rw [o3, o2, o4, three]
    by_cases h1 : c.rcv = o <;> by_cases h2 : c.snd = o
    · rw [if_pos h1, if_pos h2, if_pos h1, if_pos (h2.trans h1.symm)]
    · rw [if_pos h1, if_neg h2, if_pos h1, if_neg (fun z => h2 (z.trans h1))]
    · rw [if_neg h1, if_pos h2, if_neg h1]; omega
    · rw [if_neg h1, if_neg h2, if_neg h1]; omega
def ownLs (cs : List Chan) : List (List Str) := cs.flatMap Chan.ownL
theorem cnt_pos : ∀ (L : List (List Str)) (o : Str) (n : Nat), n ≤ L.foldl (cntF o) n
  | [], o, n => Nat.le_refl _
  | l :: L, o, n => by
    rw [List.foldl_cons]
    exact Nat.le_trans (by unfold cntF; omega) (cnt_pos L o (cntF o n l))
theorem cnt_need (o : Str) : ∀ (cs : List Chan) (n : Nat), 1 ≤ n → (ownLs cs).foldl (cntF o) n = cs.foldl (fun n c => if c.rcv = o then max n c.least else n) n
  | [], n, _ => rfl
  | c :: cs, n, hn => by
    unfold ownLs
    rw [List.flatMap_cons, List.foldl_append, ownL_cnt c o n hn, List.foldl_cons]
    exact cnt_need o cs _ (by split <;> omega)
theorem cntS_need (cs : List Chan) (o : Str) : cntS (ownLs cs) o = needS cs o := cnt_need o cs 1 (Nat.le_refl _)
theorem ownLs_sub {svc : List Str} {cs : List Chan} (h : ∀ c ∈ cs, OkCh svc c) : ∀ l ∈ ownLs cs, ∀ o ∈ l, o ∈ svc := by
  intro l hl o ho
  obtain ⟨c, hc, hl⟩ := List.mem_flatMap.mp hl
  obtain ⟨ws, _, rfl⟩ := List.mem_map.mp hl
  obtain ⟨w, _, rfl⟩ := List.mem_map.mp ho
  unfold Chan.own
  split
  · exact (h c hc).snd
  · exact (h c hc).rcv
/-- the numbers while a chain is walked -/
def gP (L : List (List Str)) (l dp : List Str) (o : Str) : Nat := if o ∈ dp then max (cntS L o) (l.count o) else cntS L o
theorem gP_all (L : List (List Str)) (l : List Str) (o : Str) : gP L l l o = cntS (L ++ [l]) o := by
  rw [cntS_snoc]
  unfold gP
  by_cases h : o ∈ l
  · rw [if_pos h]
  · rw [if_neg h, List.count_eq_zero_of_not_mem h]; omega
theorem gP_snoc (L : List (List Str)) (l dp : List Str) (x o : Str) : gP L l (dp ++ [x]) o = if o = x then max (gP L l dp o) (l.count o) else gP L l dp o := by
  unfold gP
  by_cases h : o = x
  · rw [if_pos h, if_pos (by simp [h])]
    split <;> omega
  · rw [if_neg h]
    by_cases h2 : o ∈ dp
    · rw [if_pos h2, if_pos (by simp [h2])]
    · rw [if_neg h2, if_neg (by simp [h2, h])]
/-! ### pairs of a text and a number -/
def frcD (f : Str → Nat) (o : Str) : D := .tup [.str o, .int (f o : Nat)]
theorem pairD_map (g : Str → D) : ∀ ks : List Str, pairD ks (ks.map g) = ks.map fun o => .tup [.str o, g o]
  | [] => rfl
  | k :: ks => by
    have := pairD_map g ks
    unfold pairD at this ⊢
    rw [List.map_cons, List.zip_cons_cons, List.map_cons, this]; rfl
theorem need_no {o : Str} : ∀ {cs : List Chan} {n : Nat}, (∀ c ∈ cs, c.rcv ≠ o) → cs.foldl (fun n c => if c.rcv = o then max n c.least else n) n = n
  | [], n, _ => rfl
  | c :: cs, n, h => by
    rw [List.foldl_cons, if_neg (h c List.mem_cons_self)]
    exact need_no fun d hd => h d (List.mem_cons_of_mem _ hd)
theorem needS_svc {svc : List Str} {cs : List Chan} (h : ∀ c ∈ cs, OkCh svc c) {o : Str} (hn : 1 < needS cs o) : o ∈ svc := by
  refine Classical.byContradiction fun z => ?_
  have : needS cs o = 1 := need_no fun c hc e => z (e ▸ (h c hc).rcv)
  omega
theorem need_le {o : Str} : ∀ {cs : List Chan} {n : Nat}, n ≤ 3 → cs.foldl (fun n c => if c.rcv = o then max n c.least else n) n ≤ 3
  | [], n, h => h
  | c :: cs, n, h => by
    have hl : c.least ≤ 3 := by unfold Chan.least; (repeat' split) <;> omega
    rw [List.foldl_cons]
    refine need_le ?_
    split <;> omega
theorem needS_le (cs : List Chan) (o : Str) : needS cs o ≤ 3 := need_le (by omega)
theorem Sm.int3 {n : Nat} (h : n ≤ 3) : Sm 0 20 (.int (n : Nat)) := by
  have : n = 0 ∨ n = 1 ∨ n = 2 ∨ n = 3 := by omega
  rcases this with rfl | rfl | rfl | rfl <;> exact ⟨rfl, by decide +kernel, by decide +kernel, by decide +kernel, by decide +kernel, by decide +kernel⟩
theorem frc_sm {f : Str → Nat} {ys : List Str} (h : ∀ y ∈ ys, nameOk y) (hf : ∀ y ∈ ys, f y ≤ 3) (hl : ys.length ≤ 12) : Sm 2 400 (.tup (ys.map (frcD f))) := by
  refine (Sms.tup (Sms.of (dp := 1) (wt := 30) fun d hd => ?_)).mono (Nat.le_refl _) ?_
  · obtain ⟨y, hy, rfl⟩ := List.mem_map.mp hd
    exact ((Sm.name (h y hy)).two (Sm.int3 (hf y hy))).mono (by decide) (by decide)
  · simp; omega
open PySem.W (alike alikeAll dataLt AllAlike Sortable) in
theorem frc_srtOk (f : Str → Nat) (l : List Str) : SrtOk (l.map (frcD f)) := by
  refine ⟨fun x hx => ?_, fun d hd d' hd' => ?_, .inl fun d hd => ?_⟩
  · obtain ⟨s, _, rfl⟩ := List.mem_map.mp hx
    refine ⟨rfl, ?_⟩
    show PyData.depth (.tuple [.str s, .int (f s : Nat)]) ≤ 64
    simp [PyData.depth, PyData.depthAll]
  · rw [List.map_map] at hd hd'
    obtain ⟨s, _, rfl⟩ := List.mem_map.mp hd
    obtain ⟨s', _, rfl⟩ := List.mem_map.mp hd'
    rfl
  · rw [List.map_map] at hd
    obtain ⟨s, _, rfl⟩ := List.mem_map.mp hd
    exact ⟨_, _, rfl⟩
theorem frc_lt (f : Str → Nat) {a b : Str} (h : a.cps.toList < b.cps.toList) : dLt (frcD f a) (frcD f b) = true := by
  show PyProof.Rows.lexLt itemOrd [Sum.inl 1, Sum.inr a.cps.toList, Sum.inl 1, Sum.inl (f a : Nat), Sum.inl 0] [Sum.inl 1, Sum.inr b.cps.toList, Sum.inl 1, Sum.inl (f b : Nat), Sum.inl 0] = true
  rw [PyProof.Rows.lex_self, PyProof.Rows.lex_cons, Bool.or_eq_true]
  exact .inl (decide_eq_true h)
theorem srt_frc (f : Str → Nat) {ks ys : List Str} (nd : ks.Nodup) (ay : Asc ys) (h : ∀ o, o ∈ ys ↔ o ∈ ks) : srtD (ks.map (frcD f)) = ys.map (frcD f) := by
  have e : srtD (ks.map (frcD f)) = (ks.mergeSort fun a b => dLe (frcD f a) (frcD f b)).map (frcD f) := (PySem.W.sort_maps (frcD f) fun _ _ _ _ => rfl).symm
  rw [e]
  congr 1
  have pm : (ks.mergeSort fun a b => dLe (frcD f a) (frcD f b)).Perm ks := List.mergeSort_perm _ _
  have tot : PySem.W.TotalLe (fun a b : Str => dLe (frcD f a) (frcD f b)) := PySem.W.sortLe_total (listOrd itemOrd) false fun s : Str => PySem.W.keyToks (toPy (frcD f s))
  have h1 : (ks.mergeSort fun a b => dLe (frcD f a) (frcD f b)).Pairwise fun a b => dLe (frcD f a) (frcD f b) = true := PySem.W.sort_pairwise tot ks
  have h2 : (ks.mergeSort fun a b => dLe (frcD f a) (frcD f b)).Nodup := pm.nodup_iff.mpr nd
  refine asc_ext ?_ ay fun o => by rw [pm.mem_iff, h]
  unfold Asc
  refine (List.Pairwise.and h1 h2).imp fun {a b} h => ?_
  obtain ⟨hle, hne⟩ := h
  have h4 : dLt (frcD f b) (frcD f a) = false := by
    have : (!dLt (frcD f b) (frcD f a)) = true := hle
    simpa using this
  by_cases z : a.cps.toList < b.cps.toList
  · exact z
  · rcases List.le_iff_lt_or_eq.mp (List.not_lt.mp z) with z | z
    · rw [frc_lt f z] at h4; cases h4
    · exact absurd (str_ext z.symm) hne
end Vf

namespace Vf
open PySem PySem.Spec PyProof.Rows L2
open RZ (nextOf_tuple_item nextOf_tuple_end)
/-! ### zip of two tuples whose pairs are taken whole: the zip knows the tuple that it gave last -/
def zipO (x : Value) (f : Bool) (TI TO : Addr) : Obj := { cls := .type "zip", dict := none, data := .fields #[x, .bool f, .bool false, .ref TI, .ref TO], slots := #[] }
/-- none was given, or one at T -/
def zipX (x : Value) : Prop := x = .none ∨ ∃ T : Nat, x = rawInt T
section
variable {prog : Program} {w : World} {A : Around} {E : Value → Shared → Prop} {s : Shared}
theorem gone_at {T : Addr} {Q : Option Obj → Shared → Prop} (e : s.heap.get? T = none) (q : Q none s) : wpAny (model prog w) A (loadIfAlive T) Q E s :=
  have q' : Q (s.heap.get? T) s := e ▸ q
  fun _ _ _ => q'
theorem zip_asks {z TI TO : Addr} {x : Value} {f : Bool} {Q : Bool → Shared → Prop} (hz : s.heap.get? z = some (zipO x f TI TO)) (hx : zipX x) (hf : Q true s)
    (hh : ∀ h', h'.get? z = some (zipO x true TI TO) → Heap.SameBut z s.heap h' → Q false { s with heap := h' }) : wpAny (model prog w) A (Builtin.SmallTypes.ownedTupleIsFree (.ref z)) Q E s := by
  rcases hx with rfl | ⟨T, rfl⟩
  · unfold Builtin.SmallTypes.ownedTupleIsFree
    exact wpAny_bind (wpAny_field hz rfl (x := .none) rfl (wpAny_pure hf))
  · cases hT : s.heap.get? T with
    | some oT => exact wpAny_tupleHeld_zip (show IsZipHeld s.heap z TI TO T f from hz) hT fun h' a b => hh h' a b
    | none =>
      unfold Builtin.SmallTypes.ownedTupleIsFree
      refine wpAny_bind (wpAny_field hz rfl (x := rawInt T) rfl ?_)
      show wpAny _ _ (loadIfAlive ((T : Int).toNat) >>= _) _ _ _
      rw [Int.toNat_natCast]
      exact wpAny_bind (gone_at hT (wpAny_pure hf))
/-- what a turn leaves behind -/
structure ZipAft (h h' : Heap) (z TI TO i1 i2 a b : Addr) (i : Nat) (x y : Value) : Prop where
  zp : ∃ x f, zipX x ∧ h'.get? z = some (zipO x f TI TO)
  to : ∃ x y, IsPair h' TO x y
  it1 : h'.IsTupleIter i1 a (i + 1)
  it2 : h'.IsTupleIter i2 b (i + 1)
  pr : IsPair h' h.objs.size x y
  sz : h'.objs.size = h.objs.size + 1
  old : ∀ c o, c ≠ z → c ≠ TO → c ≠ i1 → c ≠ i2 → h.get? c = some o → h'.get? c = some o
theorem zip_turn {z TI TO i1 i2 a b : Addr} {i : Nat} {xs ys : Array Value} {x0 x y p q : Value} {f : Bool} {Q : Value → Shared → Prop} (D : ZipApart z TI TO i1 i2 a b)
    (hz : s.heap.get? z = some (zipO x0 f TI TO)) (hx0 : zipX x0) (hTI : IsPair s.heap TI (.ref i1) (.ref i2)) (hTO : IsPair s.heap TO p q) (h1 : s.heap.IsTupleIter i1 a i) (h2 : s.heap.IsTupleIter i2 b i)
    (ha : s.heap.IsTuple a xs) (hb : s.heap.IsTuple b ys) (hx : xs[i]? = some x) (hy : ys[i]? = some y) (hQ : ∀ h', ZipAft s.heap h' z TI TO i1 i2 a b i x y → Q (.ref s.heap.objs.size) { s with heap := h' }) :
    wpAny (model prog w) A (Builtin.«zip.__next__» ⟨[.ref z], []⟩) (fun r s' => ∃ v, r = .done (.ret v) ∧ Q v s') E s := by
  show wpAny _ _ (field (.ref z) 2 >>= _) _ _ _
  refine wpAny_bind (wpAny_field hz rfl (x := .bool false) rfl ?_)
  show wpAny _ _ (field (.ref z) 3 >>= _) _ _ _
  refine wpAny_bind (wpAny_field hz rfl (x := .ref TI) rfl (wpAny_bind (wpAny_seqItems hTI rfl ?_)))
  show wpAny _ _ (Builtin.SmallTypes.ownedTupleIsFree (.ref z) >>= _) _ _ _
  refine wpAny_bind (zip_asks hz hx0 ?_ fun k1 z1 s1 => ?_)
  · -- its own tuple is filled anew
    simp only [if_true]
    refine wpAny_bind (wpAny_rule (wpAny_bind (wpAny_field hz rfl (x := .ref TO) rfl (wpAny_bind (wpAny_setField_rec hz (by simp) fun k1 z1 s1 => ?_)))))
    replace z1 : k1.get? z = some (zipO .ellipsis f TI TO) := z1
    refine wpAny_bind ?_
    simp only [List.zipIdx_cons, List.zipIdx_nil, List.forIn_cons, List.forIn_nil]
    refine wpAny_bind (wpAny_bind (wpAny_onRaise ?_))
    show wpAny _ _ (Builtin.SmallTypes.nextOf (.ref i1) >>= _) _ _ _
    refine wpAny_bind (nextOf_tuple_item (h1.extBut s1.extBut D.i1z) (ha.extBut s1.extBut D.l1z) hx fun k2 j2 s2 => wpAny_pure ?_)
    have t2 : IsPair k2 TO p q := s2.extBut _ _ D.TOi1 (s1.extBut _ _ D.TOz hTO)
    refine wpAny_bind (wpAny_seqItems t2 rfl (wpAny_bind (wpAny_updateSeq_pair t2 fun k3 t3 s3 => wpAny_bind (wpAny_letGo (wpAny_pure ?_)))))
    replace t3 : IsPair k3 TO x q := t3
    refine wpAny_bind (wpAny_bind (wpAny_onRaise ?_))
    show wpAny _ _ (Builtin.SmallTypes.nextOf (.ref i2) >>= _) _ _ _
    refine wpAny_bind (nextOf_tuple_item (((h2.extBut s1.extBut D.i2z).extBut s2.extBut D.i12.symm).extBut s3.extBut D.TOi2.symm) (((hb.extBut s1.extBut D.l2z).extBut s2.extBut D.l2i1).extBut s3.extBut D.l2TO) hy fun k4 j4 s4 => wpAny_pure ?_)
    have t4 : IsPair k4 TO x q := s4.extBut _ _ D.TOi2 t3
    refine wpAny_bind (wpAny_seqItems t4 rfl (wpAny_bind (wpAny_updateSeq_pair t4 fun k5 t5 s5 => wpAny_bind (wpAny_letGo (wpAny_pure (wpAny_pure ?_))))))
    replace t5 : IsPair k5 TO x y := t5
    refine wpAny_bind (wpAny_seqItems t5 rfl (wpAny_bind (wpAny_newTuple ?_)))
    have e5 : k5.objs.size = s.heap.objs.size := by rw [s5.1, s4.1, s3.1, s2.1, s1.1]
    have z5 : k5.get? z = some (zipO .ellipsis f TI TO) := s5.extBut _ _ D.TOz.symm (s4.extBut _ _ D.i2z.symm (s3.extBut _ _ D.TOz.symm (s2.extBut _ _ D.i1z.symm z1)))
    have o5 : ∀ c o, c ≠ z → c ≠ TO → c ≠ i1 → c ≠ i2 → s.heap.get? c = some o → k5.get? c = some o := fun c o n1 n2 n3 n4 e => s5.extBut _ _ n2 (s4.extBut _ _ n4 (s3.extBut _ _ n2 (s2.extBut _ _ n3 (s1.extBut _ _ n1 e))))
    have j1 : k5.IsTupleIter i1 a (i + 1) := ((j2.extBut s3.extBut D.TOi1.symm).extBut s4.extBut D.i12).extBut s5.extBut D.TOi1.symm
    have j5 : k5.IsTupleIter i2 b (i + 1) := j4.extBut s5.extBut D.TOi2.symm
    have lz : z < k5.objs.size := Heap.lt_size z5
    show wpAny _ _ (Builtin.SmallTypes.ownedTupleHandOut (.ref z) (.ref k5.objs.size) >>= _) _ _ _
    refine wpAny_bind ?_
    unfold Builtin.SmallTypes.ownedTupleHandOut
    have z6 : (k5.push { cls := .type "tuple", data := .seq #[x, y] }).get? z = some (zipO .ellipsis f TI TO) := Heap.get?_push_of_some _ z5
    refine wpAny_bind (wpAny_setField_rec z6 (by simp) fun k7 z7 s7 => ?_)
    replace z7 : k7.get? z = some (zipO (rawInt k5.objs.size) f TI TO) := z7
    refine wpAny_setField_rec z7 (by simp) fun k8 z8 s8 => ?_
    replace z8 : k8.get? z = some (zipO (rawInt k5.objs.size) false TI TO) := z8
    have up : ∀ c o, c ≠ z → k5.get? c = some o → k8.get? c = some o := fun c o n e => s8.extBut _ _ n (s7.extBut _ _ n (Heap.get?_push_of_some _ e))
    have t8 : IsPair k8 k5.objs.size x y := s8.extBut _ _ (Nat.ne_of_gt lz) (s7.extBut _ _ (Nat.ne_of_gt lz) (Heap.get?_push_size _ rfl))
    have e8 : k8.objs.size = k5.objs.size + 1 := by rw [s8.1, s7.1, Heap.size_push]
    refine wpAny_pure ⟨_, rfl, ?_⟩
    show Q (.ref k5.objs.size) _
    rw [e5] at z8 t8 e8 ⊢
    exact hQ k8 ⟨⟨_, _, .inr ⟨_, rfl⟩, z8⟩, ⟨_, _, up _ _ D.TOz t5⟩, j1.at fun o e => up _ o D.i1z e, j5.at fun o e => up _ o D.i2z e, t8, e8, fun c o n1 n2 n3 n4 e => up c o n1 (o5 c o n1 n2 n3 n4 e)⟩
  · -- that tuple is out
    simp only [Bool.false_eq_true, if_false]
    refine wpAny_bind ?_
    rw [← Array.forIn_toList]
    simp only [List.forIn_cons, List.forIn_nil]
    refine wpAny_bind (wpAny_bind (wpAny_holding ?_))
    show wpAny _ _ (Builtin.SmallTypes.nextOf (.ref i1) >>= _) _ _ _
    refine wpAny_bind (nextOf_tuple_item (s := { s with heap := k1 }) (h1.extBut s1.extBut D.i1z) (ha.extBut s1.extBut D.l1z) hx fun k2 j2 s2 => wpAny_pure (wpAny_pure ?_))
    refine wpAny_bind (wpAny_bind (wpAny_holding ?_))
    show wpAny _ _ (Builtin.SmallTypes.nextOf (.ref i2) >>= _) _ _ _
    refine wpAny_bind (nextOf_tuple_item (s := { s with heap := k2 }) ((h2.extBut s1.extBut D.i2z).extBut s2.extBut D.i12.symm) ((hb.extBut s1.extBut D.l2z).extBut s2.extBut D.l2i1) hy fun k3 j3 s3 => wpAny_pure (wpAny_pure (wpAny_pure ?_)))
    show wpAny _ _ (newTuple [x, y] >>= _) _ _ _
    refine wpAny_bind (wpAny_newTuple (wpAny_pure ⟨_, rfl, ?_⟩))
    show Q (.ref k3.objs.size) _
    have e3 : k3.objs.size = s.heap.objs.size := by rw [s3.1, s2.1, s1.1]
    have z3 : k3.get? z = some (zipO x0 true TI TO) := s3.extBut _ _ D.i2z.symm (s2.extBut _ _ D.i1z.symm z1)
    have o3 : ∀ c o, c ≠ z → c ≠ i1 → c ≠ i2 → s.heap.get? c = some o → k3.get? c = some o := fun c o n1 n2 n3 e => s3.extBut _ _ n3 (s2.extBut _ _ n2 (s1.extBut _ _ n1 e))
    have j1 : k3.IsTupleIter i1 a (i + 1) := j2.extBut s3.extBut D.i12
    have t4 : IsPair (k3.push { cls := .type "tuple", data := .seq #[x, y] }) k3.objs.size x y := Heap.get?_push_size _ rfl
    have e4 : (k3.push { cls := .type "tuple", data := .seq #[x, y] }).objs.size = k3.objs.size + 1 := Heap.size_push ..
    rw [e3] at t4 e4 ⊢
    exact hQ _ ⟨⟨_, _, hx0, Heap.get?_push_of_some _ z3⟩, ⟨_, _, Heap.get?_push_of_some _ (o3 _ _ D.TOz D.TOi1 D.TOi2 hTO)⟩, j1.at fun o e => Heap.get?_push_of_some _ e, j3.at fun o e => Heap.get?_push_of_some _ e, t4, e4, fun c o n1 _ n3 n4 e => Heap.get?_push_of_some _ (o3 c o n1 n3 n4 e)⟩
theorem zip_over {z TI TO i1 i2 a b : Addr} {i : Nat} {xs ys : Array Value} {x0 p q : Value} {f : Bool} {Q : Fin → Shared → Prop} (hA : A.handled = none) (D : ZipApart z TI TO i1 i2 a b)
    (hz : s.heap.get? z = some (zipO x0 f TI TO)) (hx0 : zipX x0) (hTI : IsPair s.heap TI (.ref i1) (.ref i2)) (hTO : IsPair s.heap TO p q) (h1 : s.heap.IsTupleIter i1 a i) (h2 : s.heap.IsTupleIter i2 b i)
    (ha : s.heap.IsTuple a xs) (hb : s.heap.IsTuple b ys) (hend : xs[i]? = none ∨ ys[i]? = none)
    (hE : ∀ h' e, (∀ c o, c ≠ z → c ≠ TO → c ≠ i1 → c ≠ i2 → s.heap.get? c = some o → h'.get? c = some o) → (∃ o, h'.get? e = some o ∧ o.cls = .type "StopIteration") → E (.ref e) { s with heap := h' }) :
    wpAny (model prog w) A (Builtin.«zip.__next__» ⟨[.ref z], []⟩) Q E s := by
  show wpAny _ _ (field (.ref z) 2 >>= _) _ _ _
  refine wpAny_bind (wpAny_field hz rfl (x := .bool false) rfl ?_)
  show wpAny _ _ (field (.ref z) 3 >>= _) _ _ _
  refine wpAny_bind (wpAny_field hz rfl (x := .ref TI) rfl (wpAny_bind (wpAny_seqItems hTI rfl ?_)))
  show wpAny _ _ (Builtin.SmallTypes.ownedTupleIsFree (.ref z) >>= _) _ _ _
  refine wpAny_bind (zip_asks hz hx0 ?_ fun k1 z1 s1 => ?_)
  · simp only [if_true]
    refine wpAny_bind (wpAny_rule (wpAny_bind (wpAny_field hz rfl (x := .ref TO) rfl (wpAny_bind (wpAny_setField_rec hz (by simp) fun k1 z1 s1 => ?_)))))
    replace z1 : k1.get? z = some (zipO .ellipsis f TI TO) := z1
    refine wpAny_bind ?_
    simp only [List.zipIdx_cons, List.zipIdx_nil, List.forIn_cons, List.forIn_nil]
    refine wpAny_bind (wpAny_bind (wpAny_onRaise ?_))
    show wpAny _ _ (Builtin.SmallTypes.nextOf (.ref i1) >>= _) _ _ _
    cases hx : xs[i]? with
    | none =>
      refine wpAny_bind (nextOf_tuple_end hA (h1.extBut s1.extBut D.i1z) (ha.extBut s1.extBut D.l1z) hx fun k2 e s2 ⟨oe, he, hc⟩ => ?_)
      have z2 : k2.get? z = some (zipO .ellipsis f TI TO) := s2 _ _ D.i1z.symm z1
      have ne : e ≠ z := fun t => by
        rw [t, z2] at he
        cases he
        simp [zipO] at hc
      exact wpAny_setField_rec z2 (by simp) fun k3 _ s3 => hE k3 e (fun c o n1 _ n3 _ t => s3.extBut _ _ n1 (s2 _ _ n3 (s1.extBut _ _ n1 t))) ⟨oe, s3.extBut _ _ ne he, hc⟩
    | some x =>
      have hy : ys[i]? = none := hend.resolve_left fun t => by rw [hx] at t; cases t
      refine wpAny_bind (nextOf_tuple_item (h1.extBut s1.extBut D.i1z) (ha.extBut s1.extBut D.l1z) hx fun k2 j2 s2 => wpAny_pure ?_)
      have t2 : IsPair k2 TO p q := s2.extBut _ _ D.TOi1 (s1.extBut _ _ D.TOz hTO)
      refine wpAny_bind (wpAny_seqItems t2 rfl (wpAny_bind (wpAny_updateSeq_pair t2 fun k3 t3 s3 => wpAny_bind (wpAny_letGo (wpAny_pure ?_)))))
      refine wpAny_bind (wpAny_bind (wpAny_onRaise ?_))
      show wpAny _ _ (Builtin.SmallTypes.nextOf (.ref i2) >>= _) _ _ _
      refine wpAny_bind (nextOf_tuple_end hA (((h2.extBut s1.extBut D.i2z).extBut s2.extBut D.i12.symm).extBut s3.extBut D.TOi2.symm) (((hb.extBut s1.extBut D.l2z).extBut s2.extBut D.l2i1).extBut s3.extBut D.l2TO) hy fun k4 e s4 ⟨oe, he, hc⟩ => ?_)
      have z4 : k4.get? z = some (zipO .ellipsis f TI TO) := s4 _ _ D.i2z.symm (s3.extBut _ _ D.TOz.symm (s2.extBut _ _ D.i1z.symm z1))
      have ne : e ≠ z := fun t => by
        rw [t, z4] at he
        cases he
        simp [zipO] at hc
      exact wpAny_setField_rec z4 (by simp) fun k5 _ s5 => hE k5 e (fun c o n1 n2 n3 n4 t => s5.extBut _ _ n1 (s4 _ _ n4 (s3.extBut _ _ n2 (s2.extBut _ _ n3 (s1.extBut _ _ n1 t))))) ⟨oe, s5.extBut _ _ ne he, hc⟩
  · simp only [Bool.false_eq_true, if_false]
    refine wpAny_bind ?_
    rw [← Array.forIn_toList]
    simp only [List.forIn_cons, List.forIn_nil]
    refine wpAny_bind (wpAny_bind (wpAny_holding ?_))
    show wpAny _ _ (Builtin.SmallTypes.nextOf (.ref i1) >>= _) _ _ _
    cases hx : xs[i]? with
    | none => exact wpAny_bind (nextOf_tuple_end (s := { s with heap := k1 }) hA (h1.extBut s1.extBut D.i1z) (ha.extBut s1.extBut D.l1z) hx fun k2 e s2 he => hE k2 e (fun c o n1 _ n3 _ t => s2 _ _ n3 (s1.extBut _ _ n1 t)) he)
    | some x =>
      have hy : ys[i]? = none := hend.resolve_left fun t => by rw [hx] at t; cases t
      refine wpAny_bind (nextOf_tuple_item (s := { s with heap := k1 }) (h1.extBut s1.extBut D.i1z) (ha.extBut s1.extBut D.l1z) hx fun k2 j2 s2 => wpAny_pure (wpAny_pure ?_))
      refine wpAny_bind (wpAny_bind (wpAny_holding ?_))
      show wpAny _ _ (Builtin.SmallTypes.nextOf (.ref i2) >>= _) _ _ _
      exact wpAny_bind (nextOf_tuple_end (s := { s with heap := k2 }) hA ((h2.extBut s1.extBut D.i2z).extBut s2.extBut D.i12.symm) ((hb.extBut s1.extBut D.l2z).extBut s2.extBut D.l2i1) hy fun k3 e s3 he => hE k3 e (fun c o n1 _ n3 n4 t => s3 _ _ n4 (s2.extBut _ _ n3 (s1.extBut _ _ n1 t))) he)
theorem zip_gives {z TI TO i1 i2 a b : Addr} {i : Nat} {xs ys : Array Value} {x0 x y p q : Value} {f : Bool} {Q : Option Value → Shared → Prop} (D : ZipApart z TI TO i1 i2 a b)
    (hz : s.heap.get? z = some (zipO x0 f TI TO)) (hx0 : zipX x0) (hTI : IsPair s.heap TI (.ref i1) (.ref i2)) (hTO : IsPair s.heap TO p q) (h1 : s.heap.IsTupleIter i1 a i) (h2 : s.heap.IsTupleIter i2 b i)
    (ha : s.heap.IsTuple a xs) (hb : s.heap.IsTuple b ys) (hx : xs[i]? = some x) (hy : ys[i]? = some y) (hQ : ∀ h', ZipAft s.heap h' z TI TO i1 i2 a b i x y → Q (some (.ref s.heap.objs.size)) { s with heap := h' }) :
    wpAny (model prog w) A (pyNext (.ref z)) Q E s := by
  have ty : s.TypeIs (.ref z) "zip" := ⟨_, hz, rfl⟩
  unfold pyNext
  exact wpAny_bind (wpAny_attempt (wpAny_callSpecial?_slot (name := Str.ofString "__next__") ty PySem.F.slot_zip_next
    (wpAny_call_entry PySem.F.slot_zip_next ty PySem.F.entry_zip_next (zip_turn D hz hx0 hTI hTO h1 h2 ha hb hx hy fun h' t => wpAny_pure (hQ h' t)) (PySem.F.args_zip_next_1 _))))
theorem zip_ends {z TI TO i1 i2 a b : Addr} {i : Nat} {xs ys : Array Value} {x0 p q : Value} {f : Bool} {Q : Option Value → Shared → Prop} (hA : A.handled = none) (D : ZipApart z TI TO i1 i2 a b)
    (hz : s.heap.get? z = some (zipO x0 f TI TO)) (hx0 : zipX x0) (hTI : IsPair s.heap TI (.ref i1) (.ref i2)) (hTO : IsPair s.heap TO p q) (h1 : s.heap.IsTupleIter i1 a i) (h2 : s.heap.IsTupleIter i2 b i)
    (ha : s.heap.IsTuple a xs) (hb : s.heap.IsTuple b ys) (hend : xs[i]? = none ∨ ys[i]? = none)
    (hQ : ∀ h', (∀ c o, c ≠ z → c ≠ TO → c ≠ i1 → c ≠ i2 → s.heap.get? c = some o → h'.get? c = some o) → Q none { s with heap := h' }) : wpAny (model prog w) A (pyNext (.ref z)) Q E s := by
  have ty : s.TypeIs (.ref z) "zip" := ⟨_, hz, rfl⟩
  unfold pyNext
  refine wpAny_bind (wpAny_attempt (wpAny_callSpecial?_slot (name := Str.ofString "__next__") ty PySem.F.slot_zip_next
    (wpAny_call_entry PySem.F.slot_zip_next ty PySem.F.entry_zip_next (zip_over hA D hz hx0 hTI hTO h1 h2 ha hb hend fun h' e old ⟨o, ho, hc⟩ => ?_) (PySem.F.args_zip_next_1 _))))
  exact wpAny_bind (wpAny_isInstance (T := "StopIteration") (b := true) ⟨o, ho, hc⟩ isSubtype_stop (wpAny_pure (hQ _ old)))
theorem zip_iter {z TI TO : Addr} {x0 : Value} {f : Bool} {Q : Value → Shared → Prop} (hz : s.heap.get? z = some (zipO x0 f TI TO)) (q : Q (.ref z) s) : wpAny (model prog w) A (pyIter (.ref z)) Q E s := by
  have ty : s.TypeIs (.ref z) "zip" := ⟨_, hz, rfl⟩
  refine wpAny_pyIter_slot ty PySem.F.slot_zip_iter (wpAny_call_entry PySem.F.slot_zip_iter ty PySem.F.entry_zip_iter ?_ (PySem.F.args_zip_iter_1 _))
  show wpAny _ _ (ret (.ref z)) _ _ s
  exact wpAny_pure ⟨_, rfl, _, _, ty, PySem.F.slot_zip_next.lookup, q⟩
end
/-- how the cells of such a zip stand -/
def ZipSt (z TI TO i1 i2 a b : Addr) (i : Nat) (h : Heap) : Prop := (∃ x f, zipX x ∧ h.get? z = some (zipO x f TI TO)) ∧ IsPair h TI (.ref i1) (.ref i2) ∧ (∃ x y, IsPair h TO x y) ∧ h.IsTupleIter i1 a i ∧ h.IsTupleIter i2 b i
theorem turn_zipN {P : Program} {w : World} {K : PySem.W.Frag} {x : Str} {tpos : Pos} {a b z TI TO i1 i2 : Addr} (D : ZipApart z TI TO i1 i2 a b) : Turn P w K (.Name x tpos) (RZ.ItzT K a b) [z, TI, TO, i1, i2] z (ZipSt z TI TO i1 i2 a b) where
  mem := by simp
  obj := fun i h st c hc => by
    obtain ⟨⟨x0, f, _, hz⟩, hTI, ⟨x, y, hTO⟩, ⟨o1, e1, _, d1⟩, ⟨o2, e2, _, d2⟩⟩ := st
    simp only [List.mem_cons, List.not_mem_nil, or_false] at hc
    rcases hc with rfl | rfl | rfl | rfl | rfl
    · exact ⟨_, hz, fun v t => nomatch t⟩
    · exact ⟨_, hTI, fun v t => nomatch t⟩
    · exact ⟨_, hTO, fun v t => nomatch t⟩
    · exact ⟨o1, e1, fun v t => by rw [d1] at t; cases t⟩
    · exact ⟨o2, e2, fun v t => by rw [d2] at t; cases t⟩
  keep := fun i h h' st k => by
    obtain ⟨⟨x0, f, n0, hz⟩, hTI, ⟨x, y, hTO⟩, h1, h2⟩ := st
    exact ⟨⟨x0, f, n0, k z (by simp) _ hz⟩, k TI (by simp) _ hTI, ⟨x, y, k TO (by simp) _ hTO⟩, h1.at fun o t => k i1 (by simp) o t, h2.at fun o t => k i2 (by simp) o t⟩
  item := by
    intro X hP hw hK hc i pins s σ H E I hf st hg
    subst hP hw hK
    obtain ⟨⟨x0, f, n0, hz⟩, hTI, ⟨p, q, hTO⟩, h1, h2⟩ := st
    obtain ⟨xs, ys, x, y, qx, qy, hx, hy⟩ := hg
    obtain ⟨us, rv, p1, _⟩ := I.tuple qx
    obtain ⟨us2, rv2, p2, _⟩ := I.tuple qy
    obtain ⟨u, hu, ru⟩ := rv.get hx
    obtain ⟨u2, hu2, ru2⟩ := rv2.get hy
    refine zip_gives D hz n0 hTI hTO h1 h2 p1 p2 (x := u) (y := u2) (by simpa using hu) (by simpa using hu2) fun h' t => ⟨_, rfl, wpAny_pure ?_⟩
    have lt : ∀ c ∈ [z, TI, TO, i1, i2], c < s.heap.objs.size := fun c hc => by
      simp only [List.mem_cons, List.not_mem_nil, or_false] at hc
      rcases hc with rfl | rfl | rfl | rfl | rfl
      · exact Heap.lt_size hz
      · exact Heap.lt_size hTI
      · exact Heap.lt_size hTO
      · obtain ⟨_, e1, _⟩ := h1; exact Heap.lt_size e1
      · obtain ⟨_, e1, _⟩ := h2; exact Heap.lt_size e1
    have new : ObjOk X.prog X.w (L2.upd H s.heap.objs.size (.tup [x, y])) h' s.heap.objs.size (.tup [x, y]) := ⟨by show 2 ≤ sizeLine; decide, [u, u2], .cons ru (.cons ru2 .nil), ⟨_, t.pr, rfl, _, rfl⟩⟩
    have I1 : Inv X pins σ (L2.upd H s.heap.objs.size (.tup [x, y])) { s with heap := h' } :=
      I.turnedNew (t' := s.toks) (ch := [z, TI, TO, i1, i2]) (fun c o nc e => t.old c o (fun e' => nc (by simp [e'])) (fun e' => nc (by simp [e'])) (fun e' => nc (by simp [e'])) (fun e' => nc (by simp [e'])) e) hf (Nat.le_refl _) new
    refine ⟨.ref s.heap.objs.size, _, I1, rfl, ⟨_, x, y, rfl, I.hok.fresh (Nat.le_refl _), rfl, fun l hl => by rw [I.tuple_inj hl qx]; exact hx, fun l hl => by rw [I.tuple_inj hl qy]; exact hy⟩, ⟨t.zp, t.old _ _ D.TIz D.TITO D.TIi1 D.TIi2 hTI, t.to, t.it1, t.it2⟩, fun c hcm => ?_⟩
    rw [upd_ne (Nat.ne_of_lt (lt c hcm))]
    exact (hf c hcm).1
  done := by
    intro X hP hw hK hc i pins s σ H E I hf st hg
    subst hP hw hK
    obtain ⟨⟨x0, f, n0, hz⟩, hTI, ⟨p, q, hTO⟩, h1, h2⟩ := st
    obtain ⟨xs, ys, qx, qy, hend⟩ := hg
    obtain ⟨us, rv, p1, _⟩ := I.tuple qx
    obtain ⟨us2, rv2, p2, _⟩ := I.tuple qy
    have l1 := rv.length
    have l2 := rv2.length
    exact zip_ends (I.ok.hd hc) D hz n0 hTI hTO h1 h2 p1 p2 (hend.imp (fun t => by simp; omega) (fun t => by simp; omega)) fun h' old => ⟨rfl, I.turnedL (t' := s.toks) (ch := [z, TI, TO, i1, i2])
      (fun c o nc e => old c o (fun e' => nc (by simp [e'])) (fun e' => nc (by simp [e'])) (fun e' => nc (by simp [e'])) (fun e' => nc (by simp [e'])) e) hf⟩
  self := fun A i s Q E st q => let ⟨⟨_, _, _, hz⟩, _⟩ := st; zip_iter hz q
section
variable {X : Cx}
def iZipN (K : PySem.W.Frag) (ta : TA) : TI := fun σ H R => ta σ H fun vs H1 => ∃ a b xs ys, vs = [.ref a, .ref b] ∧ SqT K H1 a xs ∧ SqT K H1 b ys ∧ R (RZ.ItzT K a b) H1
theorem pi_zipN {e e2 : Expr} {ta : TA} {x : Str} {p pos tpos : Pos} (hg : Gl X "zip") (hm : X.mg "zip" = none) (ha : PA X [e, e2] ta)
    (hs : starEach [e, e2] X.env = (false, eval e X.env) :: starEach [e2] X.env := by rfl) (hpl : (backTo pos (starEach [e2] X.env)).any (·.1) = false := by rfl) : PI X (.Name x tpos) (.Call (.Name "zip" p) [e, e2] [] pos) (iZipN X.K ta) := by
  refine ⟨fun pins s σ H R I h => Call_ (ld_blt I hg hm PyProof.Rows.boot_zip (PyProof.Rows.callWith_type1 (thn (ha.run pos pins s σ H _ I h) fun us s1 ⟨vs, H1, I1, r1, a, b, xs, ys, ex, qx, qy, q⟩ => ?_) hs hpl))⟩
  subst ex
  obtain ⟨u, u', rfl, ru, ru'⟩ := r1.two
  cases ru
  cases ru'
  obtain ⟨us, rv, p1, _⟩ := I1.tuple qx
  obtain ⟨us2, rv2, p2, _⟩ := I1.tuple qy
  have lt1 : a < s1.heap.objs.size := by obtain ⟨o, ho, _⟩ := p1; exact Heap.lt_size ho
  have lt2 : b < s1.heap.objs.size := by obtain ⟨o, ho, _⟩ := p2; exact Heap.lt_size ho
  refine RZ.call_zipT (show s1.heap.IsTuple a us.toArray from p1) (show s1.heap.IsTuple b us2.toArray from p2) fun h' hz hTI hTO h1 h2 hsz hk => wpAny_pyIter_zip hz ?_
  refine ⟨_, [s1.heap.objs.size + 4, s1.heap.objs.size + 2, s1.heap.objs.size + 3, s1.heap.objs.size, s1.heap.objs.size + 1], _, _, H1, rfl, I1.kept (t' := s1.toks) hk, turn_zipN (PySem.W.ktu_apart s1.heap.objs.size a b lt1 lt2), ⟨⟨_, false, .inl rfl, hz⟩, hTI, ⟨_, _, hTO⟩, h1, h2⟩, fun c hc => ?_, q⟩
  have le : s1.heap.objs.size ≤ c := by
    simp only [List.mem_cons, List.not_mem_nil, or_false] at hc
    rcases hc with t | t | t | t | t <;> rw [t] <;> first | exact Nat.le_refl _ | exact Nat.le_add_right _ _
  exact I1.fpOk le (I1.hok.fresh le)
/-- for x in zip(a, b), both tuples -/
def wZipN (w : WL) : WI := fun ρ h k => w ρ h fun as h1 => ∃ ds es, as = [.tup ds, .tup es] ∧ k ⟨zipD ds es, fun _ => True⟩ h1
theorem di_zipN {e e2 : Expr} {w : WL} {x : Str} {p pos tpos : Pos} (hg : Gl X "zip") (hm : X.mg "zip" = none) (ha : DA X [e, e2] w)
    (hs : starEach [e, e2] X.env = (false, eval e X.env) :: starEach [e2] X.env := by rfl) (hpl : (backTo pos (starEach [e2] X.env)).any (·.1) = false := by rfl) : DI X (.Name x tpos) (.Call (.Name "zip" p) [e, e2] [] pos) (wZipN w) := by
  refine PI.imp (pi_zipN hg hm ha hs hpl) fun σ H R ⟨m, ρ, h, k, rs, rh, q, f⟩ => ⟨m, ρ, h, _, rs, rh, q, fun as h1 vs m1 H1 s1 rh1 rd ⟨ds, es, e, q1⟩ => ?_⟩
  subst e
  obtain ⟨u, v, rfl, r1, r2⟩ := rd.two
  unfold RelD at r1 r2
  obtain ⟨a, xs, rfl, ta, ra⟩ := r1
  obtain ⟨b, ys, rfl, tb, rb⟩ := r2
  refine ⟨a, b, xs, ys, rfl, ta.sq, tb.sq, f _ h1 m1 H1 _ s1 rh1 ⟨_, _, walk_zipT (n := (zipD ds es).length) ?_, fun m2 H2 h2 s2 _ _ => ⟨(ta.mv s2).sq, (tb.mv s2).sq⟩, fun i m2 H2 x H3 h2 s2 rh2 _ y => pair_step rh2 (ra.mv s2) (rb.mv s2) y⟩ q1⟩
  simp [zipD, ra.length, rb.length]
end
end Vf

namespace Vf
open PySem PySem.Spec PyProof.Rows L2
/-! ### chains and their neighbours -/
def chP (cs : List Chan) : List (Chan × List Str) := cs.flatMap fun c => c.words.map fun ws => (c, ws)
def chPD (p : Chan × List Str) : D := chainD p.1 p.2
theorem chP_D (cs : List Chan) : chainsD cs = (chP cs).map chPD := by
  unfold chainsD chP
  rw [List.map_flatMap]
  refine congrArg (fun f => List.flatMap f cs) (funext fun c => ?_)
  rw [List.map_map]; rfl
theorem chP_ws {cs : List Chan} {p : Chan × List Str} (h : p ∈ chP cs) : p.1 ∈ cs ∧ p.2 ∈ p.1.words := by
  obtain ⟨c, hc, h⟩ := List.mem_flatMap.mp h
  obtain ⟨ws, hw, rfl⟩ := List.mem_map.mp h
  exact ⟨hc, hw⟩
/-- neighbours in a chain of a channel -/
abbrev Nb := Chan × Str × Str
def nbOf (p : Chan × List Str) : List Nb := (p.2.zip (p.2.drop 1)).map fun q => (p.1, q)
def nbL (cs : List Chan) : List Nb := (chP cs).flatMap nbOf
def nbD (x : Nb) : D := .tup [partD x.1 x.2.1, partD x.1 x.2.2]
theorem nb_zip (c : Chan) : ∀ xs ys : List Str, zipD (xs.map (partD c)) (ys.map (partD c)) = ((xs.zip ys).map fun q => (c, q)).map nbD := by
  intro xs ys
  unfold zipD
  rw [List.zip_map, List.map_map, List.map_map]
  rfl
theorem nbOf_len {cs : List Chan} {p : Chan × List Str} (h : p ∈ chP cs) : (nbOf p).length ≤ 2 := by
  have := (p.1.words_len.2 p.2 (chP_ws h).2).1
  unfold nbOf
  simp; omega
theorem flat_len {α β : Type} {f : α → List β} {n : Nat} : ∀ {l : List α}, (∀ x ∈ l, (f x).length ≤ n) → (l.flatMap f).length ≤ n * l.length
  | [], _ => by simp
  | x :: l, h => by
    have h1 := h x List.mem_cons_self
    have h2 := flat_len (l := l) fun y hy => h y (List.mem_cons_of_mem _ hy)
    rw [List.flatMap_cons, List.length_append, List.length_cons, Nat.mul_add]; omega
theorem chP_len (cs : List Chan) : (chP cs).length ≤ 2 * cs.length := flat_len fun c _ => by rw [List.length_map]; exact c.words_len.1
theorem nbL_len (cs : List Chan) : (nbL cs).length ≤ 4 * cs.length := by
  have h1 := chP_len cs
  have h2 : (nbL cs).length ≤ 2 * (chP cs).length := flat_len fun p hp => nbOf_len hp
  omega
/-- the same, channel by channel -/
def Chan.nbs (c : Chan) : List Nb := c.words.flatMap fun ws => nbOf (c, ws)
theorem nbL_eq (cs : List Chan) : nbL cs = cs.flatMap Chan.nbs := by
  unfold nbL chP
  rw [List.flatMap_assoc]
  refine congrArg (fun f => List.flatMap f cs) (funext fun c => ?_)
  rw [List.flatMap_map]; rfl
theorem Chan.nbs_kind (c : Chan) : c.nbs = if c.kind = kReader then [(c, wRead, wSwitch)] else if c.kind = kWriter then [(c, wSwitch, wRead)] else if c.kind = kSplit then [(c, wWiden, wSwitch), (c, wSwitch, wNarrow)] else [] := by
  unfold Chan.nbs Chan.words
  by_cases e1 : c.kind = kReader
  · rw [if_pos e1, if_pos e1]; rfl
  · rw [if_neg e1, if_neg e1]
    by_cases e2 : c.kind = kWriter
    · rw [if_pos e2, if_pos e2]; rfl
    · rw [if_neg e2, if_neg e2]
      by_cases e3 : c.kind = kSplit
      · rw [if_pos e3, if_pos e3]; rfl
      · rw [if_neg e3, if_neg e3, List.flatMap_append]
        split <;> split <;> rfl
theorem nb_wl {cs : List Chan} {x : Nb} (h : x ∈ nbL cs) : x.1 ∈ cs ∧ x.2.1 ∈ x.1.wl ∧ x.2.2 ∈ x.1.wl := by
  obtain ⟨p, hp, h⟩ := List.mem_flatMap.mp h
  obtain ⟨q, hq, rfl⟩ := List.mem_map.mp h
  obtain ⟨h1, h2⟩ := chP_ws hp
  have h3 := List.of_mem_zip (show (q.1, q.2) ∈ p.2.zip (p.2.drop 1) from hq)
  exact ⟨h1, List.mem_flatten.mpr ⟨_, h2, h3.1⟩, List.mem_flatten.mpr ⟨_, h2, List.mem_of_mem_drop h3.2⟩⟩
/-- a comprehension with two clauses, each inner walk known -/
theorem lc2_walk {α β : Type} {f : α → D} {ys : α → List β} {g : β → D} {i j : Nat} {wi1 : WI} {e : W1} {vs1 : List Nat} {ok : DH → Prop} {ρ : Rho} {fin : List D → DH → Prop} {h : DH} (hok : ok h) : ∀ {xs : List α} {acc : List D},
    (∀ a ∈ xs, ∀ k : DIt → DH → Prop, k ⟨(ys a).map g, fun _ => True⟩ h → wi1 (ρ.set i (some (f a))) h k) → (∀ a ∈ xs, ∀ b ∈ ys a, ∀ k : K1, k (g b) h → e ((wipeD (ρ.set i (some (f a))) vs1).set j (some (g b))) h k) →
    acc.length + (xs.flatMap ys).length ≤ sizeLine → fin (acc ++ (xs.flatMap ys).map g) h → lcGo2 (.n i) wYes wi1 (.n j) wYes e vs1 ok ρ fin (xs.map f) acc h
  | [], acc, _, _, _, hf => ⟨hok, by simpa using hf⟩
  | x :: xs, acc, hi, he, hz, hf => by
    rw [List.map_cons]
    refine ⟨hok, _, rfl, ?_⟩
    show wi1 (ρ.set i (some (f x))) h (fun it1 h2 => lcGo (.n j) wYes e it1.ok (wipeD (ρ.set i (some (f x))) vs1) (fun acc' h3 => lcGo2 (.n i) wYes wi1 (.n j) wYes e vs1 ok ρ fin (xs.map f) acc' h3) it1.its acc h2)
    rw [List.flatMap_cons, List.length_append] at hz
    rw [List.flatMap_cons, List.map_append, ← List.append_assoc] at hf
    refine hi x List.mem_cons_self _ (lc_pure (g := id) trivial (fun y hy k' hk' => ?_) (by rw [List.length_map]; omega) ?_)
    · obtain ⟨b, hb, rfl⟩ := List.mem_map.mp hy
      exact he x List.mem_cons_self b hb k' hk'
    · rw [List.map_id]
      exact lc2_walk hok (fun a ha => hi a (List.mem_cons_of_mem _ ha)) (fun a ha => he a (List.mem_cons_of_mem _ ha)) (by rw [List.length_append, List.length_map]; omega) hf
/-! ### order pairs -/
abbrev Prs := Stp × Stp
def prsD (p : Prs) : D := .tup [stepD p.1, stepD p.2]
def nbPr (x : Nb) : Prs := ((x.1.nm, x.2.1), (x.1.nm, x.2.2))
def prsL (cs : List Chan) : List Prs := (nbL cs).map nbPr
def sortP (l : List Prs) : List Prs := l.mergeSort fun a b => dLe (prsD a) (prsD b)
theorem srtD_prs (l : List Prs) : srtD (l.map prsD) = (sortP l).map prsD := (PySem.W.sort_maps prsD fun _ _ _ _ => rfl).symm
theorem sortP_perm (l : List Prs) : (sortP l).Perm l := List.mergeSort_perm _ _
open PySem.W (alike alikeAll dataLt AllAlike Sortable) in
theorem prs_srtOk (l : List Prs) : SrtOk (l.map prsD) := by
  refine ⟨fun x hx => ?_, fun d hd d' hd' => ?_, .inl fun d hd => ?_⟩
  · obtain ⟨s, _, rfl⟩ := List.mem_map.mp hx
    refine ⟨rfl, ?_⟩
    show PyData.depth (.tuple [.tuple [.str s.1.1, .str s.1.2], .tuple [.str s.2.1, .str s.2.2]]) ≤ 64
    simp [PyData.depth, PyData.depthAll]
  · rw [List.map_map] at hd hd'
    obtain ⟨s, _, rfl⟩ := List.mem_map.mp hd
    obtain ⟨s', _, rfl⟩ := List.mem_map.mp hd'
    rfl
  · rw [List.map_map] at hd
    obtain ⟨s, _, rfl⟩ := List.mem_map.mp hd
    exact ⟨_, _, rfl⟩
theorem prs_mem {cs : List Chan} {p : Prs} (h : p ∈ sortP (prsL cs)) : p.1 ∈ allS cs ∧ p.2 ∈ allS cs := by
  obtain ⟨x, hx, rfl⟩ := List.mem_map.mp ((sortP_perm _).mem_iff.mp h)
  obtain ⟨h1, h2, h3⟩ := nb_wl hx
  exact ⟨allS_mem.mpr ⟨_, h1, rfl, h2⟩, allS_mem.mpr ⟨_, h1, rfl, h3⟩⟩
theorem sortP_len (cs : List Chan) : (sortP (prsL cs)).length ≤ 4 * cs.length := by
  rw [(sortP_perm _).length_eq]
  unfold prsL
  rw [List.length_map]; exact nbL_len cs
theorem OkSys.prs_sm {svc : List Str} {cs : List Chan} (h : OkSys svc cs) : Sm 3 7000 (.tup ((sortP (prsL cs)).map prsD)) := by
  have l40 := h.l40
  have hl := sortP_len cs
  refine (Sms.tup (Sms.of (dp := 2) (wt := 40) fun d hd => ?_)).mono (Nat.le_refl _) ?_
  · obtain ⟨p, hp, rfl⟩ := List.mem_map.mp hd
    obtain ⟨h1, h2⟩ := prs_mem hp
    exact ((h.allS_ok _ h1).sm.two (h.allS_ok _ h2).sm).mono (by decide) (by decide)
  · rw [List.length_map]; omega
theorem prsL_app (a b : List Chan) : prsL (a ++ b) = prsL a ++ prsL b := by
  unfold prsL
  rw [nbL_eq, nbL_eq, nbL_eq, List.flatMap_append, List.map_append]
theorem prsL_one (c : Chan) : prsL [c] = c.nbs.map nbPr := by
  unfold prsL
  rw [nbL_eq, List.flatMap_cons, List.flatMap_nil, List.append_nil]
end Vf

namespace Vf
open PySem PySem.Spec PyProof.Rows L2
theorem RelDs.erase {K : PySem.W.Frag} {m : Lay} {H : Hp} : ∀ {ds : List D} {vs : List V} (i : Nat), RelDs K m H ds vs → RelDs K m H (ds.eraseIdx i) (vs.eraseIdx i)
  | [], vs, i, r => by unfold RelDs at r; subst r; simp only [List.eraseIdx_nil]; unfold RelDs; rfl
  | d :: ds, vs, 0, r => by
    unfold RelDs at r
    obtain ⟨u, t, rfl, h1, h2⟩ := r
    simpa using h2
  | d :: ds, vs, i + 1, r => by
    unfold RelDs at r
    obtain ⟨u, t, rfl, h1, h2⟩ := r
    simp only [List.eraseIdx_cons_succ]
    unfold RelDs
    exact ⟨u, _, rfl, h1, RelDs.erase i h2⟩
section
variable {X : Cx}
/-- while: an invariant with its measure -/
def wWhile (c : WB) (b : WS) : WS := fun e ρ h => ∃ W : Nat → Rho → DH → Prop, (∃ n, W n ρ h) ∧ ∀ n ρ h, W n ρ h →
  c ρ h fun t h1 => if t = true then ∃ N : Rho → DH → Prop, (∀ ρ' h', N ρ' h' → ∃ n', n' < n ∧ W n' ρ' h') ∧ b { e with nx := N, ct := N, bk := e.nx } ρ h1 else e.nx ρ h1
theorem ds_while {c : Expr} {body : List Stmt} {wc : WB} {b : WS} {pos : Pos} (hp : PassesOwn (model X.prog X.w) X.A X.env X.xe) (hc : DT X c wc) (hb : DSs X body b) : DS X (.While c body [] pos) (wWhile wc b) :=
  PS.imp (ps_while hp hc hb) fun D σ H ⟨m, ρ, h, e, rs, rh, ⟨W, ⟨n0, w0⟩, turn⟩, f⟩ => by
    refine ⟨fun n σ2 H2 => ∃ m2 ρ2 h2, Step m H m2 H2 ∧ RelS X.K m2 H2 σ2 ρ2 ∧ RelH X.K m2 H2 h2 ∧ W n ρ2 h2, ⟨n0, m, ρ, h, Step.refl _ _, rs, rh, w0⟩, ?_⟩
    rintro n σ2 H2 ⟨m2, ρ2, h2, s2, rs2, rh2, w2⟩
    refine ⟨m2, ρ2, h2, _, rs2, rh2, turn n ρ2 h2 w2, fun t h3 m3 H3 s3 rh3 q3 => ?_⟩
    have s03 : Step m H m3 H3 := s2.trans s3
    cases t with
    | true =>
      obtain ⟨N, hN, q3⟩ : ∃ N : Rho → DH → Prop, _ := q3
      show ∃ N : L2.St → Hp → Prop, _
      refine ⟨fun σ4 H4 => ∃ m4 ρ4 h4, Step m H m4 H4 ∧ RelS X.K m4 H4 σ4 ρ4 ∧ RelH X.K m4 H4 h4 ∧ N ρ4 h4, ?_, ?_⟩
      · rintro σ4 H4 ⟨m4, ρ4, h4, s4, rs4, rh4, q4⟩
        obtain ⟨n', hn, w'⟩ := hN ρ4 h4 q4
        exact ⟨n', hn, m4, ρ4, h4, s4, rs4, rh4, w'⟩
      · exact ⟨m3, ρ2, h3, _, rs2.step s3, rh3, q3, fun ρ5 h5 σ5 m5 H5 s5 rs5 rh5 q5 => ⟨m5, ρ5, h5, s03.trans s5, rs5, rh5, q5⟩, (f.step s03).rt, (f.step s03).nx, fun ρ5 h5 σ5 m5 H5 s5 rs5 rh5 q5 => ⟨m5, ρ5, h5, s03.trans s5, rs5, rh5, q5⟩⟩
    | false =>
      exact f.nx ρ2 h3 σ2 m3 H3 s03 (rs2.step s3) rh3 q3
/-- xs.pop(i) -/
def wmPopAt : WM := fun d ds h k => ∃ n xs i y, d = .ref n ∧ ds = [.int (i : Nat)] ∧ h[n]? = some (.lst xs) ∧ i < 2 ^ 62 ∧ xs[i]? = some y ∧ k y (h.set n (.lst (xs.eraseIdx i)))
theorem mt_popAtD : MtR X "list.pop" (rM X.K wmPopAt) := by
  rintro pins s σ H x xs v us Q I rx rv ⟨m, h, d, ds, k, rh, rd, rds, ⟨n, ys, i, y, e1, e2, hn, hi, hy, q⟩, fo⟩
  subst e1 e2
  obtain ⟨z, rfl, rz⟩ := rds.one
  unfold RelD at rd rz
  subst rz
  obtain ⟨a, rfl, ha⟩ := rd
  obtain ⟨b, eb, vs, ev, rvs⟩ := rh.ob n _ hn
  rw [ha] at eb; cases eb
  obtain ⟨u, hu, ru⟩ := rvs.atD hy
  have hl : i < vs.length := (List.getElem?_eq_some_iff.mp hu).1
  have e1 : ¬ ((i : Nat) : Int) < 0 := by omega
  have e2 : ((i : Nat) : Int) < vs.length := by omega
  refine mt_popAt pins s σ H (.ref a) [.int i] v us Q I rx rv ⟨a, vs, i, i, u, rfl, rfl, ev, by omega, by omega, ?_, hu, ?_⟩
  · simp [seqIndex?, e1, e2]
  have st := Step.put rh (.lst (vs.eraseIdx i)) (List.mem_of_getElem? ha)
  exact fo y _ u m _ st (rh.put ha (rvs.erase i)) (ru.step st) q
/-- xs.insert(0, y) -/
def wmInsert0 : WM := fun d ds h k => ∃ n xs y, d = .ref n ∧ ds = [.int 0, y] ∧ h[n]? = some (.lst xs) ∧ xs.length < sizeLine ∧ k .non (h.set n (.lst (y :: xs)))
theorem mt_insertD : MtR X "list.insert" (rM X.K wmInsert0) := by
  rintro pins s σ H x xs v us Q I rx rv ⟨m, h, d, ds, k, rh, rd, rds, ⟨n, ys, y, e1, e2, hn, hl, q⟩, fo⟩
  subst e1 e2
  obtain ⟨z0, z, rfl, r0, rz⟩ := rds.two
  unfold RelD at rd r0
  subst r0
  obtain ⟨a, rfl, ha⟩ := rd
  obtain ⟨b, eb, vs, ev, rvs⟩ := rh.ob n _ hn
  rw [ha] at eb; cases eb
  refine mt_insert pins s σ H (.ref a) [.int 0, z] v us Q I rx rv ⟨a, vs, 0, z, rfl, rfl, ev, by rw [← rvs.length]; exact hl, by omega, by omega, ?_⟩
  have st := Step.put rh (.lst (z :: vs)) (List.mem_of_getElem? ha)
  have e0 : vs.take (0 : Int).toNat ++ [z] ++ vs.drop (0 : Int).toNat = z :: vs := by simp
  rw [e0]
  exact fo .non _ .non m _ st (rh.put ha (by unfold RelDs; exact ⟨z, vs, rfl, rz, rvs⟩)) (by unfold RelD; rfl) q
/-- for x in reversed(tuple) -/
def wRev (w : W1) : WI := fun ρ h k => w ρ h fun d h1 => ∃ ds, d = .tup ds ∧ k ⟨ds.reverse, fun _ => True⟩ h1
theorem di_rev {tg e : Expr} {w : W1} {p pos : Pos} (hg : Gl X "reversed") (hm : X.mg "reversed" = none) (he : DE X e w) (hs : starEach [e] X.env = (false, eval e X.env) :: starEach [] X.env := by rfl) : DI X tg (.Call (.Name "reversed" p) [e] [] pos) (wRev w) :=
  PI.imp (RT.pi_revA hg hm he hs) fun σ H R ⟨m, ρ, h, k, rs, rh, q, f⟩ => ⟨m, ρ, h, _, rs, rh, q, fun d h1 v m1 H1 s1 rh1 rd ⟨ds, e, q1⟩ => by
    subst e
    unfold RelD at rd
    obtain ⟨a, vs, rfl, ta, r⟩ := rd
    refine ⟨a, vs, rfl, .inr ⟨ta.sq, f _ h1 m1 H1 _ s1 rh1 ?_ q1⟩⟩
    refine ⟨⟨fun H => SqT X.K H a vs, fun i H x H' => i < vs.length ∧ H' = H ∧ vs[vs.length - 1 - i]? = some x, ⟨?_, ?_, ?_⟩, fun m1 H1 h1 s1 _ _ => (ta.mv s1).sq, fun i m1 H1 x H2 h1 s1 rh1 _ y => ?_⟩⟩
    · intro i H hi hq
      rw [List.length_reverse, r.length] at hi
      exact ⟨hi, vs, vs[vs.length - 1 - i]'(by omega), hq, by simp [show vs.length - 1 - i < vs.length by omega]⟩
    · intro H hq
      show vs.length ≤ ds.reverse.length
      rw [List.length_reverse, r.length]; exact Nat.le_refl _
    · intro i H x H' hi hq y
      rw [List.length_reverse, r.length] at hi
      exact ⟨hi, y.1, y.2 vs hq⟩
    · obtain ⟨hi, rfl, e⟩ := y
      obtain ⟨d, ed, rd⟩ := (r.mv s1).at e
      refine ⟨d, ?_, Step.refl _ _, rh1, rd⟩
      show ds.reverse[i]? = some d
      rw [List.getElem?_reverse (by rw [r.length]; exact hi), r.length]; exact ed⟩
end
end Vf

namespace Vf
open PySem PySem.Spec PyProof.Rows L2
/-! ### dict comprehensions -/
def dcGo (T : Tg) (t : WB) (ek ev : W1) (ok : DH → Prop) (ρ : Rho) (n : Nat) (fin : DH → Prop) : List D → DH → Prop
  | [], h => ok h ∧ fin h
  | x :: xs, h => ok h ∧ ∃ ρ1, tgD T x ρ = some ρ1 ∧ t ρ1 h fun b h1 => if b = true then ek ρ1 h1 fun y h2 => ev ρ1 h2 fun z h3 => ∃ ks ds j, y = kD j ∧ h3[n]? = some (.dk ks ds) ∧ ks.length < sizeLine ∧ dcGo T t ek ev ok ρ n fin xs (h3.set n (.dk (putKs j ks) (putVs j z ks ds))) else dcGo T t ek ev ok ρ n fin xs h1
def wDc (wi : WI) (T : Tg) (t : WB) (ek ev : W1) (vs : List Nat) : W1 := fun ρ h k => wi ρ h fun it h1 => dcGo T t ek ev it.ok (wipeD ρ vs) h1.length (fun h2 => k (.ref h1.length) h2) it.its (h1 ++ [.dk [] []])
theorem rel_kV {K : PySem.W.Frag} {m : Lay} {H : Hp} {j : Key} {v : V} (r : RelD K m H (kD j) v) : v = kV j := by
  cases j with
  | inl i => unfold kD RelD at r; exact r
  | inr x => unfold kD RelD at r; exact r
section
variable {X : Cx}
section
variable {kx vx tg iter : Expr} {ifs : List Expr} {scope : Scope} {own : List (Str × Nat)} {pos : Pos} {wi : WI} {T : Tg} {t : WB} {ek ev : W1}
theorem de_dc (hc : X.calm = true) (hN : X.N.Nodup) (hi : DI X tg iter wi) (ok : BlkOk X.N X.env.scope scope own) (hv : ∀ i ∈ tgS T, i ∈ own.map (·.2))
    (hg : ∀ (s : Shared) (H : Hp) (C : Addr) (cl : List (Str × Addr)) (fp : List Addr), PG (X.blk s H scope (compEnvC scope cl C X.env) fp) tg (tgG X.K T))
    (ht : ∀ (s : Shared) (H : Hp) (C : Addr) (cl : List (Str × Addr)) (fp : List Addr), DTs (X.blk s H scope (compEnvC scope cl C X.env) fp) ifs t)
    (hk : ∀ (s : Shared) (H : Hp) (C : Addr) (cl : List (Str × Addr)) (fp : List Addr), DE (X.blk s H scope (compEnvC scope cl C X.env) fp) kx ek)
    (he : ∀ (s : Shared) (H : Hp) (C : Addr) (cl : List (Str × Addr)) (fp : List Addr), DE (X.blk s H scope (compEnvC scope cl C X.env) fp) vx ev) (hs : ∀ x, foldedSetIterable iter X.env x = pure x := by intro _; rfl) :
    DE X (.DictComp kx vx [⟨tg, iter, ifs, 0⟩] scope pos) (wDc wi T t ek ev (own.map (·.2))) :=
  PE.imp (pe_dc (tt := tDB X.K t) (tk := tD X.K ek) (tv := tD X.K ev) hc hN hi ok hg ht hk he hs) fun σ H Q ⟨m, ρ, h, k, rs, rh, q, f⟩ => by
    refine ⟨m, ρ, h, _, rs, rh, q, fun it h1 m1 H1 J s1 rh1 ⟨G, Y, wk, hG, hY⟩ q1 p hp => ?_⟩
    generalize own.map (·.2) = vs at hv q1 ⊢
    have st0 := Step.push rh1 (.dK []) hp
    have rh0 : RelH X.K (m1.push p) (L2.upd H1 p (.dK [])) (h1 ++ [.dk [] []]) := rh1.pushO (d := .dk [] []) hp ⟨[], upd_same, rfl, by unfold RelDs; rfl⟩
    have ea0 : (m1.push p).m[h1.length]? = some p := push_at rh1.len
    refine ⟨fun i n H2 => n = it.its.length - i ∧ i ≤ it.its.length ∧ ∃ (m2 : Lay) (h2 : DH), Step (m1.push p) (L2.upd H1 p (.dK [])) m2 H2 ∧ RelH X.K m2 H2 h2 ∧ RelS X.K m2 H2 (L2.wipe σ vs) (wipeD ρ vs) ∧
      dcGo T t ek ev it.ok (wipeD ρ vs) h1.length (fun h2 => k (.ref h1.length) h2) (it.its.drop i) h2, ⟨_, rfl, Nat.zero_le _, m1.push p, _, Step.refl _ _, rh0, ((rs.step s1).step st0).wipe vs, by simpa using q1⟩, ?_⟩
    rintro i n H2 ⟨rfl, hi2, m2, h2, s2, rh2, rs2, q2⟩
    have g2 : G H2 := by
      refine hG m2 H2 h2 (st0.trans s2).mv rh2 ?_
      cases hd : it.its.drop i <;> (rw [hd] at q2; exact q2.1)
    by_cases hlt : i < it.its.length
    · refine .inr ⟨wk.goes i H2 hlt g2, fun H5 => ∃ (m5 : Lay) (h5 : DH), Step (m1.push p) (L2.upd H1 p (.dK [])) m5 H5 ∧ RelH X.K m5 H5 h5 ∧ RelS X.K m5 H5 (L2.wipe σ vs) (wipeD ρ vs) ∧
        dcGo T t ek ev it.ok (wipeD ρ vs) h1.length (fun h2 => k (.ref h1.length) h2) (it.its.drop (i + 1)) h5, fun H' p' => ⟨it.its.length - (i + 1), by omega, rfl, hlt, p'⟩, fun x H3 y0 => ?_⟩
      have y := wk.yields i H2 x H3 hlt g2 y0
      have hd : it.its.drop i = it.its[i] :: it.its.drop (i + 1) := List.drop_eq_getElem_cons hlt
      rw [hd] at q2
      obtain ⟨ok2, ρ3, e3, q3⟩ := q2
      obtain ⟨d, ed, st, rh3, rd⟩ := hY i m2 H2 x H3 h2 (st0.trans s2).mv rh2 ok2 y
      have e4 : d = it.its[i] := by simpa [hlt] using ed.symm
      subst e4
      refine tg_ok T rd (rs2.step st) e3 fun σ4 rs4 hw => ⟨by rw [hw vs hv]; exact wipe_wipe σ vs, ?_⟩
      refine ⟨m2, ρ3, h2, _, rs4, rh3, q3, fun b h5 m5 H5 s5 rh5 q5 => ?_⟩
      have s25 : Step m2 H2 m5 H5 := st.trans s5
      cases b with
      | false => exact ⟨m5, h5, s2.trans s25, rh5, rs2.step s25, q5⟩
      | true =>
        refine ⟨m5, ρ3, h5, _, rs4.step s5, rh5, q5, fun dy h6 v m6 H6 s6 rh6 ry q6 => ?_⟩
        refine ⟨m6, ρ3, h6, _, (rs4.step s5).step s6, rh6, q6, fun dz h7 u m7 H7 s7 rh7 rz ⟨ks, ds, j, ey, en, hz, q7⟩ => ?_⟩
        subst ey
        have ev0 : v = kV j := rel_kV ry
        subst ev0
        have s27 : Step m2 H2 m7 H7 := (s25.trans s6).trans s7
        obtain ⟨a, ea, us, eu, hl, r⟩ := rh7.ob _ _ en
        have s07 := s2.trans s27
        have : a = p := by
          have := s07.mv.at ea0
          rw [this] at ea; cases ea; rfl
        subst this
        have pz := putK_zip j u ks us hl
        have st7 := Step.put rh7 (.dK (putK (ks.zip us) j u)) (List.mem_of_getElem? ea)
        refine ⟨_, j, rfl, eu, by rw [List.length_zip, ← hl, Nat.min_self]; exact hz, m7, _, s07.trans st7, rh7.putO (d := .dk (putKs j ks) (putVs j dz ks ds)) ea ⟨_, by rw [← pz.1]; exact upd_same, pz.2, (RelDs.putVs rz r).step st7⟩, (rs2.step s27).step st7, q7⟩
    · have e : i = it.its.length := by omega
      subst e
      rw [List.drop_length] at q2
      refine .inl ⟨wk.stops H2 g2, f (.ref h1.length) h2 (.ref p) m2 H2 ((s1.trans st0).trans s2) rh2 ?_ q2.2⟩
      unfold RelD
      exact ⟨p, rfl, s2.mv.at ea0⟩
end
/-! ### a dict with text keys, walked or not -/
def DKat' (d : D) (h : DH) (ks : List Key) (ds : List D) : Prop := ∃ n, d = .ref n ∧ (h[n]? = some (.dk ks ds) ∨ ∃ o vs, h[n]? = some (.dkl o vs ks ds))
theorem DKat'.rel {K : PySem.W.Frag} {m : Lay} {H : Hp} {h : DH} {d : D} {v : V} {ks : List Key} {ds : List D} (rh : RelH K m H h) (rd : RelD K m H d v) (e : DKat' d h ks ds) : ∃ a vs, v = .ref a ∧ Rd H a (.dK (ks.zip vs)) ∧ ks.length = vs.length ∧ RelDs K m H ds vs := by
  obtain ⟨n, rfl, e | ⟨o, vs, e⟩⟩ := e
  · unfold RelD at rd
    obtain ⟨a, rfl, ha⟩ := rd
    obtain ⟨b, eb, vs, ev, hl, r⟩ := rh.ob n _ e
    rw [ha] at eb; cases eb
    exact ⟨a, vs, rfl, .inl ev, hl, r⟩
  · unfold RelD at rd
    obtain ⟨a, rfl, ha⟩ := rd
    obtain ⟨b, eb, ev, hl, r⟩ := rh.ob n _ e
    rw [ha] at eb; cases eb
    exact ⟨a, vs, rfl, .inr ⟨o, ev⟩, hl, r⟩
/-- an expression that walks the dict at place i -/
def wLockK (i : Nat) (w : W1) : W1 := fun ρ h k => ∃ n ks ds, ρ[i]? = some (some (.ref n)) ∧ h[n]? = some (.dk ks ds) ∧ ∀ o vs, w ρ (h.set n (.dkl o vs ks ds)) fun x h' => h'[n]? = some (.dkl o vs ks ds) ∧ k x (h'.set n (.dk ks ds))
theorem de_lockK (i : Nat) {e : Expr} {w : W1} (h : DE X e w) : DE X e (wLockK i w) := PE.imp (pe_lock h) fun σ H Q ⟨m, ρ, h, k, rs, rh, ⟨n, ks, ds, e1, e2, q⟩, c⟩ => by
  obtain ⟨a, ea, vs, ev, hl, r⟩ := rh.ob n _ e2
  have am : a ∈ m.m := List.mem_of_getElem? ea
  refine ⟨a, _, ev, ?_, fun od => ?_⟩
  · trivial
  have st := Step.put rh (.frz od (.dK (ks.zip vs))) am
  refine ⟨m, ρ, h.set n (.dkl od vs ks ds), _, rs.step st, rh.putO (d := .dkl od vs ks ds) ea ⟨upd_same, hl, r.step st⟩, q od vs, fun d h' v m' H' s' rh' rd ⟨e3, q'⟩ => ?_⟩
  obtain ⟨a', ea', ev', hl', r'⟩ := rh'.ob n _ e3
  have : a' = a := by
    have := s'.mv.at ea
    rw [this] at ea'; cases ea'; rfl
  subst this
  have st2 := Step.put rh' (.dK (ks.zip vs)) (List.mem_of_getElem? ea')
  exact ⟨ev', c d _ v m' _ ((st.trans s').trans st2) (rh'.putO (d := .dk ks ds) ea' ⟨vs, upd_same, hl, r'.step st2⟩) (rd.step st2) q'⟩
/-- for k in d -/
def wKeysK (w : W1) : WI := fun ρ h k => w ρ h fun d h1 => ∃ n o vs ks ds, d = .ref n ∧ h1[n]? = some (.dkl o vs ks ds) ∧ k ⟨ks.map kD, fun h' => h'[n]? = some (.dkl o vs ks ds)⟩ h1
theorem itok_keysK {K : PySem.W.Frag} {m : Lay} {H : Hp} {n : Nat} {a : Addr} {o : Obj} {vs : List V} {ks : List Key} {ds : List D} (ha : m.m[n]? = some a) (hl : ks.length = vs.length) : ItOk K m H ⟨ks.map kD, fun h' => h'[n]? = some (.dkl o vs ks ds)⟩ (Itk a o (ks.zip vs)) := by
  refine ⟨⟨_, _, by rw [show (ks.map kD).length = (ks.zip vs).length by simp; omega]; exact walk_keys, fun m1 H1 h1 s1 rh1 e => ?_, fun i m1 H1 x H2 h1 s1 rh1 e y => ?_⟩⟩
  · obtain ⟨b, eb, ev, _, _⟩ := rh1.ob n _ e
    rw [s1.at ha] at eb; cases eb
    exact ev
  · obtain ⟨rfl, k, v, e1, rfl⟩ := y
    refine ⟨kD k, ?_, Step.refl _ _, rh1, ?_⟩
    · rw [List.getElem?_map, (List.getElem?_zip_eq_some.mp e1).1]; rfl
    · cases k <;> (unfold kD RelD kV; rfl)
theorem di_keysK {tg e : Expr} {w : W1} (he : DE X e w) : DI X tg e (wKeysK w) := PI.imp (pi_keys he) fun σ H R ⟨m, ρ, h, k, rs, rh, q, f⟩ => ⟨m, ρ, h, _, rs, rh, q, fun d h1 v m1 H1 s1 rh1 rd ⟨n, o, vs, ks, ds, e, hn, q1⟩ => by
  subst e
  unfold RelD at rd
  obtain ⟨a, rfl, ha⟩ := rd
  obtain ⟨b, eb, ev, hl, r⟩ := rh1.ob n _ hn
  rw [ha] at eb; cases eb
  exact ⟨a, o, rfl, .inl ⟨_, ev, f _ h1 m1 H1 _ s1 rh1 (itok_keysK ha hl) q1⟩⟩⟩
end
end Vf

namespace Vf
open PySem PySem.Spec PyProof.Rows L2
section
variable {X : Cx}
/-- sorted(d), a list that changes later -/
def wSortedTM : WOL := fun ds h k => ∃ d ks es, ds = [d] ∧ DTat' d h ks es ∧ SrtOk (ks.map keyD) ∧ k (.ref h.length) (h ++ [.lst (srtD (ks.map keyD))])
open PySem.W (alike alikeAll dataLt AllAlike Sortable dataKind EachIs sortVals keyToks) in
theorem ol_sortedTM {n : Nat} (hc : X.calm = true) (hr : Room n X.A) : OpL X (.builtin "sorted") wSortedTM := by
  rintro pins s σ H xs us Q I r ⟨m, h, ds, k, rh, rd, ⟨d, ks, es, e, hd, so, q⟩, f⟩
  subst e
  obtain ⟨v, rfl, r1⟩ := rd.one
  obtain ⟨a, ws, rfl, hH, hlen, rws⟩ := hd.rel rh r1
  rw [Vals.ref1 r]
  obtain ⟨z, hs, xs', pr, o, es', ep, ho, hx, hdt, he, hn⟩ := (show ObjOk X.prog X.w H s.heap a (.dT (ks.zip ws)) from hH.ok I.hok)
  have l1 : es'.size = xs'.length := size_of_entries he
  have l2 : (ks.zip ws).length = xs'.length := Paired.length pr
  have hu := hr.un
  refine Calls.call_function_entry PyProof.Rows.kind_sorted PyProof.Rows.plain_sorted PyProof.Rows.entry_sorted (PyProof.Rows.args_sorted1 _) ?_
  unfold Builtin.«sorted»
  refine wpAny_bind (m := checkCount "sorted" 1 1 _) (wpAny_pure ?_)
  refine wpAny_bind (PySem.W.kdu_collect (A := X.A.in1) (kdl_raw hs hx hdt) (I.ok.hd hc) ho (by omega) fun h' tk acc hk it => ?_)
  have eb : acc.toList = (xs'.map fun x => x.2.1).map Value.ref := by
    have hl : acc.toList.length = xs'.length := by rw [Array.length_toList, it.1]; exact l1
    rw [List.map_map]
    apply List.ext_getElem?
    intro j
    rw [List.getElem?_map]
    cases hj : acc.toList[j]? with
    | none =>
      have h1 := List.getElem?_eq_none_iff.mp hj
      rw [List.getElem?_eq_none (by omega)]
      all_goals rfl
    | some v =>
      obtain ⟨en, hen, hv⟩ := it.2 j v (by rw [← Array.getElem?_toList]; exact hj)
      have qe := entry_at he j
      rw [hen] at qe
      cases hb : xs'[j]? with
      | none =>
        rw [hb] at qe
        exact nomatch (show some en = none from qe)
      | some b =>
        rw [hb] at qe
        have e2 : en = entryOfKey (tupleKind (mixKind X.prog X.w)) b := Option.some.inj qe
        rw [hv, e2]
        all_goals rfl
  have rk : RelDs X.K m H (ks.map keyD) ((xs'.map fun x => x.2.1).map V.ref) := rel_keys rh hlen (isKeys_of pr)
  have rv : Vals ((xs'.map fun x => x.2.1).map V.ref) acc.toList := by rw [eb]; exact vals_refs _
  have I1 : Inv X pins σ H { s with heap := h', toks := tk } := I.kept hk
  have hL : acc.toList.length ≤ sizeLine := by rw [Array.length_toList, it.1]; omega
  refine wpAny_bind (wpAny_newList ?_ hL)
  have hoL : (h'.push (seqObj "list" acc.toList.toArray 0)).get? h'.objs.size = some (seqObj "list" acc.toList.toArray 0) := Heap.get?_push_size _ rfl
  show wpAny _ _ _ _ _ { s with heap := h'.push (seqObj "list" acc.toList.toArray 0), toks := tk }
  generalize hh2 : h'.push (seqObj "list" acc.toList.toArray 0) = h2 at hoL ⊢
  have old : ∀ b ob, h'.get? b = some ob → (PySem.W.sortingHeap h2 h'.objs.size acc.toList).get? b = some ob := fun b ob e => PySem.W.sortingHeap_old (Nat.ne_of_lt (Heap.lt_size e)) (by rw [← hh2]; exact Heap.get?_push_of_some _ e)
  have e1 : EachIs (fun u d => ∃ v, RelV v u ∧ RelD X.K m H d v) acc.toList (ks.map keyD) := each_of rk rv
  have rds : ∀ u d, d ∈ ks.map keyD → (∃ v, RelV v u ∧ RelD X.K m H d v) → ∃ as, Reads (PySem.W.sortingHeap h2 h'.objs.size acc.toList) u (toPy d) as := fun u d hd ⟨v, h1, h2⟩ => by
    obtain ⟨as, r⟩ := Dp.reads I1 _ v u (h2.dp (so.it d hd).1) h1
    exact ⟨as, PySem.W.reads_keeps old r⟩
  have e2 : EachIs (fun u d => ∃ as, Reads (PySem.W.sortingHeap h2 h'.objs.size acc.toList) u d as) acc.toList ((ks.map keyD).map toPy) := by
    have : ∀ {us : List Value} {ds : List D}, (∀ d ∈ ds, d ∈ ks.map keyD) → EachIs (fun u d => ∃ v, RelV v u ∧ RelD X.K m H d v) us ds → EachIs (fun u d => ∃ as, Reads (PySem.W.sortingHeap h2 h'.objs.size acc.toList) u d as) us (ds.map toPy) := by
      intro us ds hs e
      induction e with
      | nil => exact .nil
      | cons a b ih => exact .cons (rds _ _ (hs _ List.mem_cons_self) a) (ih fun d hd => hs d (List.mem_cons_of_mem _ hd))
    exact this (fun d hd => hd) e1
  have S := PySem.W.SortsAt.data (prog := X.prog) (w := X.w) (A := X.A.in1.in1) (s := { s with heap := PySem.W.sortingHeap h2 h'.objs.size acc.toList, toks := tk }) e2 so.al so.so (fun d hd => by
    obtain ⟨x, hx, rfl⟩ := List.mem_map.mp hd
    have := (so.it x hx).2
    show X.A.units + 1 + 1 + _ < _
    omega)
  have e3 : EachIs (fun u d => (dataKind (PySem.W.sortingHeap h2 h'.objs.size acc.toList) ((ks.map keyD).map toPy)).keyOf u = some (keyToks (toPy d))) acc.toList (ks.map keyD) := by
    have : ∀ {us : List Value} {ds : List D}, (∀ d ∈ ds, d ∈ ks.map keyD) → EachIs (fun u d => ∃ v, RelV v u ∧ RelD X.K m H d v) us ds → EachIs (fun u d => (dataKind (PySem.W.sortingHeap h2 h'.objs.size acc.toList) ((ks.map keyD).map toPy)).keyOf u = some (keyToks (toPy d))) us ds := by
      intro us ds hs e
      induction e with
      | nil => exact .nil
      | cons a b ih =>
        obtain ⟨as, r⟩ := rds _ _ (hs _ List.mem_cons_self) a
        exact .cons (PySem.W.dataKind_some so.al (List.mem_map.mpr ⟨_, hs _ List.mem_cons_self, rfl⟩) r) (ih fun d hd => hs d (List.mem_cons_of_mem _ hd))
    exact this (fun d hd => hd) e1
  have e4 := PySem.W.sortVals_each (κ := dataKind (PySem.W.sortingHeap h2 h'.objs.size acc.toList) ((ks.map keyD).map toPy)) (rev := false) (fun d : D => keyToks (toPy d)) e1 e3
  have e5 : (ks.map keyD).mergeSort (PySem.W.sortLe (dataKind (PySem.W.sortingHeap h2 h'.objs.size acc.toList) ((ks.map keyD).map toPy)).toKeyOrd false fun d : D => keyToks (toPy d)) = srtD (ks.map keyD) := rfl
  rw [e5] at e4
  obtain ⟨zs, q1, q2⟩ := of_each e4
  have lz : zs.length ≤ sizeLine := by
    rw [← q2.length]
    unfold srtD
    rw [List.length_mergeSort, rk.length, rv.length]; exact hL
  refine wpAny_bind (wpAny_holding (wpAny_call_entry PyProof.Rows.slot_list_sort ⟨_, hoL, rfl⟩ PyProof.Rows.entry_list_sort
    (PySem.W.list_sort_vals (s := { s with heap := h2, toks := tk }) hoL S hL ⟨_, rfl, ?_⟩) (PyProof.Rows.args_list_sort _)))
  obtain ⟨e', he'⟩ := PyProof.Rows.sortedHeap_at (vs := acc.toList) (out := (sortVals (dataKind (PySem.W.sortingHeap h2 h'.objs.size acc.toList) ((ks.map keyD).map toPy)) false acc.toList acc.toList).toArray) hoL
  have hfr : H h'.objs.size = none := I1.hok.fresh (Nat.le_refl _)
  refine wpAny_pure ⟨_, rfl, .ref h'.objs.size, L2.upd H h'.objs.size (.lst zs), I1.laid (t' := tk) (fun b u e => ?_) (Nat.le_refl _) (show ObjOk X.prog X.w _ _ _ (.lst zs) from ⟨lz, _, e', q1, he'⟩), rfl, f (.ref h.length) _ (.ref h'.objs.size) (m.push h'.objs.size) _ (Step.push rh _ hfr) (rh.push hfr q2) (by unfold RelD; exact ⟨_, rfl, push_at rh.len⟩) q⟩
  have hb : b < h'.objs.size := Heap.lt_size e
  rw [PyProof.Rows.sortedHeap_old (Nat.ne_of_lt hb) (by rw [← hh2, size_push']; exact Nat.lt_succ_of_lt hb), ← hh2]
  exact Heap.get?_push_of_some _ e

/-- xs != ys, xs a list that changes -/
def wNeR : WO2 := fun x y h k => ∃ n xs ys, x = .ref n ∧ y = .lst ys ∧ h[n]? = some (.lst xs) ∧ isDat (.lst xs) ∧ isDat (.lst ys) ∧ k (.bl (!dEq (.lst xs) (.lst ys))) h
theorem op2_neR {n : Nat} (hr : Room n X.A) : Op2 X (compareOp .NotEq) wNeR := by
  rintro pins s σ H x y v u Q I rx ry ⟨m, h, dx, dy, k, rh, r1, r2, ⟨i, xs, ys, e1, e2, hi, ⟨n1, s1⟩, ⟨n2, s2⟩, w⟩, f⟩
  subst e1 e2
  unfold RelD at r1
  obtain ⟨a, rfl, ha⟩ := r1
  obtain ⟨b, eb, vs, ev, rvs⟩ := rh.ob i _ hi
  rw [ha] at eb; cases eb
  have d1 : Dp X.K H (.ref a) (toPy (.lst xs)) := by
    have : toPy (.lst xs) = .list (toPys xs) := by unfold toPy; rfl
    rw [this]
    exact .lst (SqL.of ev) (rvs.dp (by unfold noRef at n1; exact n1))
  exact op_neD hr.units pins s σ H _ _ v u Q I rx ry ⟨_, _, d1, r2.dp n2, s1, s2, f.now rh (.blI _) w⟩
/-- d[k], text keys, also while it is walked -/
def wDIxK (a b : W1) : W1 := fun ρ h k => a ρ h fun x h1 => b ρ h1 fun y h2 => ∃ ks ds j d, DKat' x h2 ks ds ∧ y = kD j ∧ atK j ks ds = some d ∧ k d h2
theorem de_dixK {n : Nat} {a b : Expr} {wa wb : W1} {pos : Pos} (hr : Room n X.A) (ha : DE X a wa) (hb : DE X b wb) (hs : NoSl b := by exact fun _ _ => rfl) : DE X (.Subscript a b pos) (wDIxK wa wb) :=
  PE.imp (pe_dget (Room.u1 hr) ha hb hs) fun σ H Q ⟨m, ρ, h, k, rs, rh, q, c⟩ => ⟨m, ρ, h, _, rs, rh, q, fun x h1 v m1 H1 s1 rh1 rx q1 => ⟨m1, ρ, h1, _, rs.step s1, rh1, q1, fun y h2 u m2 H2 s2 rh2 ry ⟨ks, ds, j, d, ek, ey, ed, q2⟩ => by
    subst ey
    obtain ⟨a, vs, rfl, ha, hl, r⟩ := ek.rel rh2 (rx.step s2)
    obtain ⟨z, ez, rz⟩ := (RelDs.atK r).1 d ed
    rw [RelD.kD ry]
    exact ⟨a, z, rfl, .inl ⟨_, j, ha, rfl, by rw [atK_val, ez]⟩, c d h2 z m2 H2 (s1.trans s2) rh2 rz q2⟩⟩⟩
end
end Vf

namespace Vf
open PySem PySem.Spec PyProof.Rows L2
section
variable {X : Cx}
/-- sorted of a list, a list that changes, a tuple -/
def wSortedU : WOL := fun ds h k => wSortedD ds h k ∨ ∃ xs : List D, ds = [.tup xs] ∧ SrtOk xs ∧ k (.lst (srtD xs)) h
open PySem.W (alike alikeAll dataLt AllAlike Sortable dataKind EachIs sortVals keyToks) in
theorem ol_sortedU {n : Nat} (hr : Room n X.A) : OpL X (.builtin "sorted") wSortedU := by
  rintro pins s σ H vs us Q I r ⟨m, h, ds, k, rh, rd, hw | ⟨xs, e, so, q⟩, f⟩
  · exact ol_sortedD hr pins s σ H vs us Q I r ⟨m, h, ds, k, rh, rd, hw, f⟩
  subst e
  obtain ⟨v, rfl, r1⟩ := rd.one
  unfold RelD at r1
  obtain ⟨a, ws, rfl, ta, rk⟩ := r1
  rw [Vals.ref1 r]
  obtain ⟨its, rv, ⟨o, ho, hc, nn, hd⟩, hz⟩ := I.tuple ta.sq
  have hu := hr.un
  refine Calls.call_function_entry PyProof.Rows.kind_sorted PyProof.Rows.plain_sorted PyProof.Rows.entry_sorted (PyProof.Rows.args_sorted1 _) ?_
  unfold Builtin.«sorted»
  refine wpAny_bind (m := checkCount "sorted" 1 1 _) (wpAny_pure ?_)
  have hL0 : its.toArray.size ≤ sizeLine := by rw [List.size_toArray, ← rv.length]; exact hz
  refine wpAny_bind (wpAny_collect_seq a (.inr rfl) ho hc hd (fun h' hk => ?_) hL0)
  have I1 : Inv X pins σ H { s with heap := h' } := I.kept (t' := s.toks) hk
  have hL : its.length ≤ sizeLine := by rw [← rv.length]; exact hz
  rw [List.toList_toArray]
  refine wpAny_bind (wpAny_newList ?_ hL)
  have hoL : (h'.push (seqObj "list" its.toArray 0)).get? h'.objs.size = some (seqObj "list" its.toArray 0) := Heap.get?_push_size _ rfl
  show wpAny _ _ _ _ _ { s with heap := h'.push (seqObj "list" its.toArray 0) }
  generalize hh2 : h'.push (seqObj "list" its.toArray 0) = h2 at hoL ⊢
  have old : ∀ b ob, h'.get? b = some ob → (PySem.W.sortingHeap h2 h'.objs.size its).get? b = some ob := fun b ob e => PySem.W.sortingHeap_old (Nat.ne_of_lt (Heap.lt_size e)) (by rw [← hh2]; exact Heap.get?_push_of_some _ e)
  have e1 : EachIs (fun u d => ∃ v, RelV v u ∧ RelD X.K m H d v) its xs := each_of rk rv
  have rds : ∀ u d, d ∈ xs → (∃ v, RelV v u ∧ RelD X.K m H d v) → ∃ as, Reads (PySem.W.sortingHeap h2 h'.objs.size its) u (toPy d) as := fun u d hd ⟨v, h1, h2⟩ => by
    obtain ⟨as, r⟩ := Dp.reads I1 _ v u (h2.dp (so.it d hd).1) h1
    exact ⟨as, PySem.W.reads_keeps old r⟩
  have e2 : EachIs (fun u d => ∃ as, Reads (PySem.W.sortingHeap h2 h'.objs.size its) u d as) its (xs.map toPy) := by
    have : ∀ {us : List Value} {ds : List D}, (∀ d ∈ ds, d ∈ xs) → EachIs (fun u d => ∃ v, RelV v u ∧ RelD X.K m H d v) us ds → EachIs (fun u d => ∃ as, Reads (PySem.W.sortingHeap h2 h'.objs.size its) u d as) us (ds.map toPy) := by
      intro us ds hs e
      induction e with
      | nil => exact .nil
      | cons a b ih => exact .cons (rds _ _ (hs _ List.mem_cons_self) a) (ih fun d hd => hs d (List.mem_cons_of_mem _ hd))
    exact this (fun d hd => hd) e1
  have S := PySem.W.SortsAt.data (prog := X.prog) (w := X.w) (A := X.A.in1.in1) (s := { s with heap := PySem.W.sortingHeap h2 h'.objs.size its }) e2 so.al so.so (fun d hd => by
    obtain ⟨x, hx, rfl⟩ := List.mem_map.mp hd
    have := (so.it x hx).2
    show X.A.units + 1 + 1 + _ < _
    omega)
  have e3 : EachIs (fun u d => (dataKind (PySem.W.sortingHeap h2 h'.objs.size its) (xs.map toPy)).keyOf u = some (keyToks (toPy d))) its xs := by
    have : ∀ {us : List Value} {ds : List D}, (∀ d ∈ ds, d ∈ xs) → EachIs (fun u d => ∃ v, RelV v u ∧ RelD X.K m H d v) us ds → EachIs (fun u d => (dataKind (PySem.W.sortingHeap h2 h'.objs.size its) (xs.map toPy)).keyOf u = some (keyToks (toPy d))) us ds := by
      intro us ds hs e
      induction e with
      | nil => exact .nil
      | cons a b ih =>
        obtain ⟨as, r⟩ := rds _ _ (hs _ List.mem_cons_self) a
        exact .cons (PySem.W.dataKind_some so.al (List.mem_map.mpr ⟨_, hs _ List.mem_cons_self, rfl⟩) r) (ih fun d hd => hs d (List.mem_cons_of_mem _ hd))
    exact this (fun d hd => hd) e1
  have e4 := PySem.W.sortVals_each (κ := dataKind (PySem.W.sortingHeap h2 h'.objs.size its) (xs.map toPy)) (rev := false) (fun d : D => keyToks (toPy d)) e1 e3
  have e5 : xs.mergeSort (PySem.W.sortLe (dataKind (PySem.W.sortingHeap h2 h'.objs.size its) (xs.map toPy)).toKeyOrd false fun d : D => keyToks (toPy d)) = srtD xs := rfl
  rw [e5] at e4
  obtain ⟨zs, q1, q2⟩ := of_each e4
  have lz : zs.length ≤ sizeLine := by
    rw [← q2.length]
    unfold srtD
    rw [List.length_mergeSort, rk.length]; exact hz
  refine wpAny_bind (wpAny_holding (wpAny_call_entry PyProof.Rows.slot_list_sort ⟨_, hoL, rfl⟩ PyProof.Rows.entry_list_sort
    (PySem.W.list_sort_vals (s := { s with heap := h2 }) hoL S hL ⟨_, rfl, ?_⟩) (PyProof.Rows.args_list_sort _)))
  obtain ⟨e', he'⟩ := PyProof.Rows.sortedHeap_at (vs := its) (out := (sortVals (dataKind (PySem.W.sortingHeap h2 h'.objs.size its) (xs.map toPy)) false its its).toArray) hoL
  have hfr : H h'.objs.size = none := I1.hok.fresh (Nat.le_refl _)
  refine wpAny_pure ⟨_, rfl, .ref h'.objs.size, L2.upd H h'.objs.size (.lst zs), I1.laid (t' := s.toks) (fun b u e => ?_) (Nat.le_refl _) (show ObjOk X.prog X.w _ _ _ (.lst zs) from ⟨lz, _, e', q1, he'⟩), rfl, f.new rh hfr (.lstNew rh hfr q2) q⟩
  have hb : b < h'.objs.size := Heap.lt_size e
  rw [PyProof.Rows.sortedHeap_old (Nat.ne_of_lt hb) (by rw [← hh2, size_push']; exact Nat.lt_succ_of_lt hb), ← hh2]
  exact Heap.get?_push_of_some _ e
end
/-! ### a dict of the module, texts to texts -/
structure KTabS (K : PySem.W.Frag) (w : World) (mg : Str → Option Value) (x : Str) (ks ws : List Str) : Prop where
  ex : ∃ d es n, mg x = some (.ref d) ∧ KDict K w d es n ∧ ∀ (i : Nat) (z y : Str), ks[i]? = some z → ws[i]? = some y → ∃ u, PySem.W.nsIn K d z = some (some u) ∧ constV (.str y) u
section
variable {X : Cx}
def wKIxS (ks ws : List Str) (wi : W1) : W1 := fun ρ h k => wi ρ h fun y h1 => ∃ (i : Nat) (z x : Str), y = .str z ∧ ks[i]? = some z ∧ ws[i]? = some x ∧ k (.str x) h1
theorem de_kixS {w : World} {x : Str} {ks ws : List Str} {i : Expr} {wi : W1} {p pos : Pos} (T : KTabS X.K w X.mg x ks ws) (hw : X.w = w) (hi : DE X i wi) (hg : Gl X x := by rfl) (hd : (x == ("__debug__" : Str)) = false := by decide) (hs : NoSl i := by exact fun _ _ => rfl) : DE X (.Subscript (.Name x p) i pos) (wKIxS ks ws wi) := by
  subst hw
  obtain ⟨d, es, n, hm, D, hk⟩ := T.ex
  refine ⟨fun pins s σ H Q I ⟨m, ρ, h, k, rs, rh, q, c⟩ => ?_⟩
  refine subD_of PySem.F.slot_dict_getitem.lookup hs (thn ((C8.pe_gc (X := X) (v := .ref d) hg ⟨_, hm, rfl⟩ hd).run pins s σ H (fun v H1 => v = .ref d ∧ H1 = H) I ⟨rfl, rfl⟩) fun u s1 ⟨v, H1, I1, rv, e1, e2⟩ => ?_)
  subst e1 e2
  cases (show u = Value.ref d from rv)
  refine thn (hi.run pins s1 σ H1 (fun y H2 => ∃ z x u, y = .str z ∧ PySem.W.nsIn X.K d z = some (some u) ∧ constV (.str x) u ∧ Q (.str x) H2) I1 ⟨m, ρ, h, _, rs, rh, q, fun y h1 v m1 H2 s1 rh1 ry ⟨i, z, x, ey, e1, e2, q1⟩ => ?_⟩) fun iv s2 ⟨y, H2, I2, ry, z, x, u, ey, en, hc, q2⟩ => ?_
  · subst ey
    obtain ⟨u, eu, hc⟩ := hk i z x e1 e2
    unfold RelD at ry
    exact ⟨z, x, u, ry, eu, hc, c (.str x) h1 (.str x) m1 H2 s1 rh1 (.strI _) q1⟩
  · subst ey
    obtain ⟨t, rfl⟩ := hc
    exact ⟨kd_type D I2, op_item_kd D pins s2 σ H2 (.ref d) (.str z) _ iv Q I2 rfl ry ⟨z, _, .str x, rfl, rfl, en, ⟨t, rfl⟩, q2⟩⟩
end
def dcScope : Expr → Scope
  | .DictComp _ _ _ sc _ => sc
  | _ => ⟨.function, [], false, false, []⟩
/-- two clauses, any targets; the inner walk known -/
theorem lc2_walkT {α β : Type} {f : α → D} {ys : α → List β} {g : β → D} {T T1 : Tg} {wi1 : WI} {e : W1} {vs1 : List Nat} {ok : DH → Prop} {ρ : Rho} {fin : List D → DH → Prop} {h : DH} (hok : ok h) {it : β → D} : ∀ {xs : List α} {acc : List D},
    (∀ a ∈ xs, ∃ ρ1, tgD T (f a) ρ = some ρ1 ∧ (∀ k : DIt → DH → Prop, k ⟨(ys a).map it, fun _ => True⟩ h → wi1 ρ1 h k) ∧ ∀ b ∈ ys a, ∃ ρ2, tgD T1 (it b) (wipeD ρ1 vs1) = some ρ2 ∧ ∀ k : K1, k (g b) h → e ρ2 h k) →
    acc.length + (xs.flatMap ys).length ≤ sizeLine → fin (acc ++ (xs.flatMap ys).map g) h → lcGo2 T wYes wi1 T1 wYes e vs1 ok ρ fin (xs.map f) acc h
  | [], acc, _, _, hf => ⟨hok, by simpa using hf⟩
  | x :: xs, acc, hi, hz, hf => by
    rw [List.map_cons]
    obtain ⟨ρ1, e1, hw, hb⟩ := hi x List.mem_cons_self
    refine ⟨hok, ρ1, e1, ?_⟩
    show wi1 ρ1 h (fun it1 h2 => lcGo T1 wYes e it1.ok (wipeD ρ1 vs1) (fun acc' h3 => lcGo2 T wYes wi1 T1 wYes e vs1 ok ρ fin (xs.map f) acc' h3) it1.its acc h2)
    rw [List.flatMap_cons, List.length_append] at hz
    rw [List.flatMap_cons, List.map_append, ← List.append_assoc] at hf
    refine hw _ ?_
    have key : ∀ (bs : List β) (ac : List D), (∀ b ∈ bs, b ∈ ys x) → ac.length + bs.length + (xs.flatMap ys).length ≤ sizeLine → fin (ac ++ bs.map g ++ (xs.flatMap ys).map g) h →
        lcGo T1 wYes e (fun _ => True) (wipeD ρ1 vs1) (fun acc' h3 => lcGo2 T wYes wi1 T1 wYes e vs1 ok ρ fin (xs.map f) acc' h3) (bs.map it) ac h := by
      intro bs
      induction bs with
      | nil =>
        intro ac _ hl hq
        refine ⟨trivial, lc2_walkT hok (fun a ha => hi a (List.mem_cons_of_mem _ ha)) (by simp only [List.length_nil, Nat.add_zero] at hl; omega) (by simpa using hq)⟩
      | cons b bs ih =>
        intro ac hm hl hq
        rw [List.map_cons]
        obtain ⟨ρ2, e2, he⟩ := hb b (hm b List.mem_cons_self)
        refine ⟨trivial, ρ2, e2, ?_⟩
        dsimp only [wYes]
        rw [if_pos rfl]
        refine he _ ⟨by simp only [List.length_cons] at hl; omega, ih _ (fun z hz => hm z (List.mem_cons_of_mem _ hz)) (by simp only [List.length_cons, List.length_append, List.length_nil] at hl ⊢; omega) (by simpa using hq)⟩
    exact key (ys x) acc (fun _ h => h) (by omega) hf
/-! ### releases and plans -/
abbrev Rel := Str × List Stp
def relD (r : Rel) : D := .tup [.str r.1, stpsD r.2]
def planD (pl : List Rel) : D := .tup (pl.map relD)
structure OkRel (cs : List Chan) (r : Rel) : Prop where
  ne : r.2 ≠ []
  asc : AscS r.2
  own : ∀ s ∈ r.2, s ∈ ownS cs r.1
structure OkPl (cs : List Chan) (pl : List Rel) : Prop where
  rel : ∀ r ∈ pl, OkRel cs r
  perm : (pl.flatMap Prod.snd).Perm (allS cs)
theorem relFlat_len : ∀ {pl : List Rel}, (∀ r ∈ pl, r.2 ≠ []) → pl.length ≤ (pl.flatMap Prod.snd).length
  | [], _ => by simp
  | r :: pl, h => by
    have h1 := relFlat_len (pl := pl) fun x hx => h x (List.mem_cons_of_mem _ hx)
    have h2 := List.length_pos_iff.mpr (h r List.mem_cons_self)
    rw [List.flatMap_cons, List.length_append, List.length_cons]; omega
theorem OkRel.svc {svc : List Str} {cs : List Chan} (ho : OkSys svc cs) {r : Rel} (h : OkRel cs r) : r.1 ∈ svc := by
  obtain ⟨s, hs⟩ := List.exists_mem_of_ne_nil _ h.ne
  obtain ⟨c, hc, _, _, e⟩ := ownS_mem.mp (h.own s hs)
  rw [← e]
  have oc := ho.ch c hc
  unfold Chan.own
  split
  · exact oc.snd
  · exact oc.rcv
theorem ascS_len {xs ys : List Stp} (h : xs.Nodup) (hs : ∀ s ∈ xs, s ∈ ys) : xs.length ≤ ys.length := by
  induction xs generalizing ys with
  | nil => simp
  | cons x xs ih =>
    rw [List.nodup_cons] at h
    have h1 := hs x List.mem_cons_self
    have h2 := ih (ys := ys.erase x) h.2 fun y hy => (List.mem_erase_of_ne (fun e : y = x => h.1 (e ▸ hy))).mpr (hs y (List.mem_cons_of_mem _ hy))
    rw [List.length_erase_of_mem h1] at h2
    have := List.length_pos_of_mem h1
    simp only [List.length_cons]; omega
theorem OkRel.okP {svc : List Str} {cs : List Chan} (ho : OkSys svc cs) {r : Rel} (h : OkRel cs r) : OkP r.2 ∧ r.2.length ≤ 120 := by
  have h1 := ascS_len h.asc.nodup h.own
  have h2 := ho.ownS_len r.1
  exact ⟨⟨fun s hs => ho.allS_ok s (ownS_sub (h.own s hs)), by omega⟩, by omega⟩
theorem OkPl.len {svc : List Str} {cs : List Chan} (ho : OkSys svc cs) {pl : List Rel} (h : OkPl cs pl) : pl.length ≤ 120 := by
  have h1 := relFlat_len fun r hr => (h.rel r hr).ne
  have h2 := h.perm.length_eq
  have h3 := ho.allS_len
  omega
theorem OkRel.sm {svc : List Str} {cs : List Chan} (ho : OkSys svc cs) {r : Rel} (h : OkRel cs r) : Sm 3 2300 (relD r) := by
  have h1 := h.okP ho
  have h2 := (Sm.name (ho.nm _ (h.svc ho))).mono (Nat.zero_le 2) (Nat.le_refl _)
  have h3 := stps_sm h1.1.it h1.2
  exact (Sms.tup (Sms.cons h2 (Sms.cons h3 (Sms.nil 2 0)))).mono (Nat.le_refl _) (by omega)
/-- the parts of a plan weigh no more than all its steps -/
theorem plan_sms {svc : List Str} {cs : List Chan} (ho : OkSys svc cs) : ∀ {pl : List Rel}, (∀ r ∈ pl, OkRel cs r) → Sms 3 (pl.length * 2301) (pl.map relD)
  | [], _ => (Sms.nil 3 0).mono (Nat.le_refl _) (by simp)
  | r :: pl, h => by
    rw [List.map_cons]
    exact (Sms.cons ((h r List.mem_cons_self).sm ho) (plan_sms ho fun x hx => h x (List.mem_cons_of_mem _ hx))).mono (Nat.le_refl _) (by simp; omega)
end Vf

namespace Vf
open PySem PySem.Spec PyProof.Rows L2
/-- the channels, a tuple or a list that changes -/
def ChAt (h : DH) (d : D) (cs : List Chan) : Prop := d = chsD cs ∨ ∃ t, d = .ref t ∧ h[t]? = some (.lst (cs.map Chan.d))
theorem ChAt.items {h h0 : DH} {d : D} {cs : List Chan} (e : ChAt h d cs) (g : GR h h0) : ∃ ok, Items d h0 ⟨cs.map Chan.d, ok⟩ ∧ ∀ h', GR h h' → ok h' := by
  rcases e with rfl | ⟨t, rfl, e⟩
  · exact ⟨_, rfl, fun _ _ => trivial⟩
  · exact ⟨_, ⟨_, g.at e, rfl⟩, fun h' g' => g'.at e⟩
theorem chainsD_eq' (cs : List Chan) : chainsD cs = (cs.flatMap fun c => c.words.map fun ws => ws.map (partD c)).map D.tup := by
  unfold chainsD
  rw [List.map_flatMap]
  refine congrArg (fun f => List.flatMap f cs) (funext fun c => ?_)
  rw [List.map_map]; rfl
theorem partsD_len' (cs : List Chan) : (partsD cs).length = (stepsL cs).length := by
  unfold partsD stepsL
  simp [List.length_flatMap]
theorem erase_perm {α : Type} : ∀ (l : List α) (i : Nat) (h : i < l.length), (l[i] :: l.eraseIdx i).Perm l
  | [], _, h => by simp at h
  | x :: l, 0, _ => by simp
  | x :: l, i + 1, h => by
    simp only [List.getElem_cons_succ, List.eraseIdx_cons_succ]
    exact (List.Perm.swap _ _ _).trans ((erase_perm l i (by simpa using h)).cons x)
theorem erase_map {α β : Type} (f : α → β) : ∀ (l : List α) (i : Nat), (l.map f).eraseIdx i = (l.eraseIdx i).map f
  | [], _ => by simp
  | x :: l, 0 => by simp
  | x :: l, i + 1 => by simp [erase_map f l i]
theorem set_back {h : DH} {n : Nat} {v x : DO} (e : h[n]? = some v) : (h.set n x).set n v = h := by
  rw [List.set_set]
  obtain ⟨hl, e⟩ := List.getElem?_eq_some_iff.mp e
  rw [← e]; exact List.set_getElem_self hl
theorem ksOf_keys (l : List (Stp × Str)) : (ksOf l).map keyD = l.map fun p => stepD p.1 := by unfold ksOf; rw [List.map_map]; rfl
theorem law_srt {svc : List Str} {cs : List Chan} (ho : OkSys svc cs) : srtD ((ksOf (lawP cs)).map keyD) = (allS cs).map stepD := by
  rw [ksOf_keys, show (lawP cs).map (fun p => stepD p.1) = ((lawP cs).map Prod.fst).map stepD by rw [List.map_map]; rfl, srtD_steps, lawP_all ho]
theorem law_srtOk (l : List (Stp × Str)) : SrtOk ((ksOf l).map keyD) := by
  rw [ksOf_keys, show l.map (fun p => stepD p.1) = (l.map Prod.fst).map stepD by rw [List.map_map]; rfl]; exact steps_srtOk _
def ownr (cs : List Chan) (s : Stp) : Str := match cs.find? (fun c => decide (c.nm = s.1)) with | some c => c.own s.2 | none => s.1
theorem ownr_at {svc : List Str} {cs : List Chan} (ho : OkSys svc cs) {c : Chan} (hc : c ∈ cs) (w : Str) : ownr cs (c.nm, w) = c.own w := by
  unfold ownr
  cases hf : cs.find? (fun d => decide (d.nm = (c.nm, w).1)) with
  | none => exact absurd (List.find?_eq_none.mp hf c hc) (by simp)
  | some d =>
    have e1 := List.find?_some hf
    have e2 := List.mem_of_find?_eq_some hf
    rw [ho.uniq e2 hc (by simpa using e1)]
theorem ownr_own {svc : List Str} {cs : List Chan} (ho : OkSys svc cs) {s : Stp} (hs : s ∈ allS cs) : s ∈ ownS cs (ownr cs s) := by
  obtain ⟨c, hc, e, hw⟩ := allS_mem.mp hs
  obtain ⟨x, w⟩ := s
  have e : x = c.nm := e
  subst e
  rw [ownr_at ho hc]
  exact ownS_mem.mpr ⟨c, hc, rfl, hw, rfl⟩
theorem law_at {svc : List Str} {cs : List Chan} (ho : OkSys svc cs) {s : Stp} (hs : s ∈ allS cs) : atT (stepK s) (ksOf (lawP cs)) (dsOf (lawP cs)) = some (.str (ownr cs s)) := by
  obtain ⟨c, hc, e, hw⟩ := allS_mem.mp hs
  obtain ⟨x, w⟩ := s
  have e : x = c.nm := e
  subst e
  have oc := ho.ch c hc
  rw [ownr_at ho hc]
  exact atT_of (p := ((c.nm, w), c.own w)) (lawP_nodup (svc := svc) ho.casc.nodup) (lawP_mem.mpr ⟨c, hc, rfl, (lawW_mem oc.old oc.new _).mpr hw, rfl⟩)
theorem ownr_svc {svc : List Str} {cs : List Chan} (ho : OkSys svc cs) {s : Stp} (hs : s ∈ allS cs) : ownr cs s ∈ svc := by
  obtain ⟨c, hc, e, hw⟩ := allS_mem.mp hs
  obtain ⟨x, w⟩ := s
  have e : x = c.nm := e
  subst e
  have oc := ho.ch c hc
  rw [ownr_at ho hc]
  unfold Chan.own
  split
  · exact oc.snd
  · exact oc.rcv
/-! ### the steps of each service, by the sorted parts -/
abbrev Pt := Str × Stp
def ptD (p : Pt) : D := .tup [.str p.1, stepD p.2]
def ptsL (cs : List Chan) : List Pt := cs.flatMap fun c => c.wl.map fun w => (c.own w, (c.nm, w))
theorem ptsL_D (cs : List Chan) : partsD cs = (ptsL cs).map ptD := by
  unfold partsD ptsL
  rw [List.map_flatMap]
  refine congrArg (fun f => List.flatMap f cs) (funext fun c => ?_)
  rw [List.map_map]; rfl
theorem ptsL_steps (cs : List Chan) : (ptsL cs).map Prod.snd = stepsL cs := by
  unfold ptsL stepsL
  rw [List.map_flatMap]
  refine congrArg (fun f => List.flatMap f cs) (funext fun c => ?_)
  rw [List.map_map]; rfl
theorem ptsL_mem {cs : List Chan} {p : Pt} : p ∈ ptsL cs ↔ ∃ c ∈ cs, p.2.1 = c.nm ∧ p.2.2 ∈ c.wl ∧ c.own p.2.2 = p.1 := by
  unfold ptsL
  rw [List.mem_flatMap]
  constructor
  · rintro ⟨c, hc, h⟩
    obtain ⟨w, hw, rfl⟩ := List.mem_map.mp h
    exact ⟨c, hc, rfl, hw, rfl⟩
  · rintro ⟨c, hc, e1, e2, e3⟩
    refine ⟨c, hc, List.mem_map.mpr ⟨p.2.2, e2, ?_⟩⟩
    obtain ⟨o, x, w⟩ := p
    simp only at e1 e3 ⊢
    rw [e1, e3]
def sortPt (l : List Pt) : List Pt := l.mergeSort fun a b => dLe (ptD a) (ptD b)
theorem srtD_pts (l : List Pt) : srtD (l.map ptD) = (sortPt l).map ptD := (PySem.W.sort_maps ptD fun _ _ _ _ => rfl).symm
theorem lePt_total : PySem.W.TotalLe (fun a b : Pt => dLe (ptD a) (ptD b)) := PySem.W.sortLe_total (listOrd itemOrd) false fun s : Pt => PySem.W.keyToks (toPy (ptD s))
open PySem.W (alike alikeAll dataLt AllAlike Sortable) in
theorem pts_srtOk (l : List Pt) : SrtOk (l.map ptD) := by
  refine ⟨fun x hx => ?_, fun d hd d' hd' => ?_, .inl fun d hd => ?_⟩
  · obtain ⟨s, _, rfl⟩ := List.mem_map.mp hx
    refine ⟨rfl, ?_⟩
    show PyData.depth (.tuple [.str s.1, .tuple [.str s.2.1, .str s.2.2]]) ≤ 64
    simp [PyData.depth, PyData.depthAll]
  · rw [List.map_map] at hd hd'
    obtain ⟨s, _, rfl⟩ := List.mem_map.mp hd
    obtain ⟨s', _, rfl⟩ := List.mem_map.mp hd'
    rfl
  · rw [List.map_map] at hd
    obtain ⟨s, _, rfl⟩ := List.mem_map.mp hd
    exact ⟨_, _, rfl⟩
theorem lex_same {O : KeyOrd} (x : O.α) (r t : List O.α) : lexLt O (x :: r) (x :: t) = lexLt O r t := by
  rw [lex_cons, O.irrefl]; rfl
theorem lex_snoc {O : KeyOrd} (z : O.α) : ∀ (xs ys : List O.α), xs.length = ys.length → lexLt O (xs ++ [z]) (ys ++ [z]) = lexLt O xs ys
  | [], [], _ => by show lexLt O [z] [z] = _; rw [lex_same]
  | [], _ :: _, h => by simp at h
  | _ :: _, [], h => by simp at h
  | x :: xs, y :: ys, h => by
    rw [List.cons_append, List.cons_append, lex_cons, lex_cons, lex_snoc z xs ys (by simpa using h)]
theorem ptLt (o : Str) (a b : Stp) : dLt (ptD (o, a)) (ptD (o, b)) = ltS a b := by
  show lexLt itemOrd [Sum.inl 1, Sum.inr o.cps.toList, Sum.inl 1, Sum.inl 1, Sum.inr a.1.cps.toList, Sum.inl 1, Sum.inr a.2.cps.toList, Sum.inl 0, Sum.inl 0] [Sum.inl 1, Sum.inr o.cps.toList, Sum.inl 1, Sum.inl 1, Sum.inr b.1.cps.toList, Sum.inl 1, Sum.inr b.2.cps.toList, Sum.inl 0, Sum.inl 0]
    = lexLt itemOrd [Sum.inl 1, Sum.inr a.1.cps.toList, Sum.inl 1, Sum.inr a.2.cps.toList, Sum.inl 0] [Sum.inl 1, Sum.inr b.1.cps.toList, Sum.inl 1, Sum.inr b.2.cps.toList, Sum.inl 0]
  rw [lex_same, lex_same, lex_same]
  exact lex_snoc (O := itemOrd) (Sum.inl 0) [Sum.inl 1, Sum.inr a.1.cps.toList, Sum.inl 1, Sum.inr a.2.cps.toList, Sum.inl 0] [Sum.inl 1, Sum.inr b.1.cps.toList, Sum.inl 1, Sum.inr b.2.cps.toList, Sum.inl 0] rfl
theorem parts_by {svc : List Str} {cs : List Chan} (ho : OkSys svc cs) (o : Str) : ((sortPt (ptsL cs)).filter fun p => decide (p.1 = o)).map Prod.snd = ownS cs o := by
  have pr : (sortPt (ptsL cs)).Perm (ptsL cs) := List.mergeSort_perm _ _
  refine ascS_ext ?_ (ho.ownS_asc o) fun s => ?_
  · have h1 : (sortPt (ptsL cs)).Pairwise fun a b => dLe (ptD a) (ptD b) = true := PySem.W.sort_pairwise lePt_total _
    have h2 : ((sortPt (ptsL cs)).map Prod.snd).Nodup := by
      rw [(pr.map Prod.snd).nodup_iff, ptsL_steps]; exact stepsL_nodup ho.casc.nodup
    have h3 := List.pairwise_map.mp h2
    unfold AscS
    rw [List.pairwise_map, List.pairwise_filter]
    refine (List.Pairwise.and h1 h3).imp fun {a b} h e1 e2 => ?_
    obtain ⟨hle, hne⟩ := h
    obtain ⟨a1, a2⟩ := a
    obtain ⟨b1, b2⟩ := b
    have e1 : a1 = o := of_decide_eq_true e1
    have e2 : b1 = o := of_decide_eq_true e2
    subst e1 e2
    have h4 : ltS b2 a2 = false := by
      have : (!dLt (ptD (b1, b2)) (ptD (b1, a2))) = true := hle
      rw [ptLt] at this
      simpa using this
    show ltS a2 b2 = true
    cases e : ltS a2 b2 with
    | true => rfl
    | false => exact absurd (ltS_total e h4) hne
  · rw [ownS_mem, List.mem_map]
    constructor
    · rintro ⟨p, hp, rfl⟩
      obtain ⟨hp, e⟩ := List.mem_filter.mp hp
      obtain ⟨c, hc, e1, e2, e3⟩ := ptsL_mem.mp (pr.mem_iff.mp hp)
      exact ⟨c, hc, e1, e2, by rw [e3]; simpa using e⟩
    · rintro ⟨c, hc, e1, e2, e3⟩
      exact ⟨(o, s), List.mem_filter.mpr ⟨pr.mem_iff.mpr (ptsL_mem.mpr ⟨c, hc, e1, e2, e3⟩), by simp⟩, rfl⟩
/-- a dict comprehension over unlike texts -/
theorem dc_fn {i : Nat} {ek ev : W1} {ok : DH → Prop} {ρ : Rho} {n : Nat} {fin : DH → Prop} {f : Str → D} (hok : ∀ h, ok h) : ∀ {xs dn : List Str} {h : DH}, h[n]? = some (.dk (dn.map Sum.inr) (dn.map f)) → (dn ++ xs).Nodup → (dn ++ xs).length < sizeLine →
    (∀ x ∈ xs, ∀ (h' : DH) (k : K1), k (.str x) h' → ek (ρ.set i (some (.str x))) h' k) → (∀ x ∈ xs, ∀ (h' : DH) (k : K1), k (f x) h' → ev (ρ.set i (some (.str x))) h' k) →
    fin (h.set n (.dk ((dn ++ xs).map Sum.inr) ((dn ++ xs).map f))) → dcGo (.n i) wYes ek ev ok ρ n fin (xs.map .str) h
  | [], dn, h, e, _, _, _, _, q => ⟨hok _, by
    rw [List.append_nil] at q
    obtain ⟨hl, e⟩ := List.getElem?_eq_some_iff.mp e
    rw [← e, List.set_getElem_self hl] at q; exact q⟩
  | x :: xs, dn, h, e, nd, hz, hk, hv, q => by
    rw [List.map_cons]
    refine ⟨hok _, _, rfl, ?_⟩
    dsimp only [wYes]
    rw [if_pos rfl]
    refine hk x List.mem_cons_self _ _ (hv x List.mem_cons_self _ _ ⟨_, _, .inr x, rfl, e, by simp at hz ⊢; omega, ?_⟩)
    have hx : x ∉ dn := fun hm => (List.nodup_append.mp nd).2.2 x hm x (by simp) rfl
    have ei : insK x dn = dn ++ [x] := by unfold insK; rw [if_neg hx]
    have ev2 : putVs (Sum.inr x) (f x) (dn.map Sum.inr) (dn.map f) = (dn ++ [x]).map f := by
      rw [putVs_map, ei]
      refine List.map_congr_left fun o _ => ?_
      by_cases eo : o = x
      · rw [if_pos eo, eo]
      · rw [if_neg eo]
    rw [putKs_map, ev2, ei]
    refine dc_fn hok (dn := dn ++ [x]) (List.getElem?_set_self (List.getElem?_eq_some_iff.mp e).1) (by rw [List.append_assoc]; exact nd) (by rw [List.append_assoc]; exact hz) (fun y hy => hk y (List.mem_cons_of_mem _ hy)) (fun y hy => hv y (List.mem_cons_of_mem _ hy)) ?_
    rw [List.set_set, List.append_assoc]; exact q
/-- the dict of the steps of each service -/
def ByS (svc : List Str) (cs : List Chan) : DO := .dk (svc.map Sum.inr) (svc.map fun o => stpsD (ownS cs o))
theorem own_flat {svc : List Str} {cs : List Chan} (ho : OkSys svc cs) : sortS (svc.flatMap (ownS cs)) = allS cs := by
  have nd : (svc.flatMap (ownS cs)).Nodup := by
    have key : ∀ l : List Str, l.Nodup → (l.flatMap (ownS cs)).Nodup := by
      intro l
      induction l with
      | nil => intro _; simp
      | cons x l ih =>
        intro h
        rw [List.nodup_cons] at h
        rw [List.flatMap_cons, List.nodup_append]
        refine ⟨(ho.ownS_asc x).nodup, ih h.2, fun a ha b hb e => ?_⟩
        obtain ⟨y, hy, h2⟩ := List.mem_flatMap.mp hb
        obtain ⟨c, hc, e1, _, e3⟩ := ownS_mem.mp ha
        obtain ⟨d, hd, e4, _, e6⟩ := ownS_mem.mp h2
        subst e
        have : c = d := ho.uniq hc hd (by rw [← e1, ← e4])
        subst this
        exact h.1 (by rw [← e3, e6]; exact hy)
    exact key svc ho.asc.nodup
  refine ascS_ext (sortS_asc nd) ho.allS_asc fun s => ?_
  rw [(sortS_perm _).mem_iff, List.mem_flatMap]
  exact ⟨fun ⟨x, _, h⟩ => ownS_sub h, fun h => ⟨ownr cs s, ownr_svc ho h, ownr_own ho h⟩⟩
theorem OkPl.sorted {svc : List Str} {cs : List Chan} (ho : OkSys svc cs) {pl : List Rel} (h : OkPl cs pl) : sortS (pl.flatMap Prod.snd) = allS cs := by
  have nd : (pl.flatMap Prod.snd).Nodup := h.perm.nodup_iff.mpr ho.allS_asc.nodup
  exact ascS_ext (sortS_asc nd) ho.allS_asc fun s => by rw [(sortS_perm _).mem_iff, h.perm.mem_iff]
/-! ### backwards -/
def bwW (w : Str) : Str := if w = wWiden then wNarrow else if w = wNarrow then wWiden else w
def bwS (s : Stp) : Stp := (s.1, bwW s.2)
def bwL (l : List Stp) : List Stp := sortS (l.map bwS)
def bwR (r : Rel) : Rel := (r.1, bwL r.2)
def bwP (pl : List Rel) : List Rel := pl.reverse.map bwR
theorem bwW_inv (w : Str) : bwW (bwW w) = w := by
  have wn := words_ne
  unfold bwW
  by_cases h1 : w = wWiden
  · rw [if_pos h1, if_neg wn.2.2.2.2.2.symm, if_pos rfl, h1]
  · by_cases h2 : w = wNarrow
    · rw [if_neg h1, if_pos h2, if_pos rfl, h2]
    · rw [if_neg h1, if_neg h2, if_neg h1, if_neg h2]
theorem bwS_inv (s : Stp) : bwS (bwS s) = s := Prod.ext rfl (bwW_inv s.2)
theorem bwS_inj {s t : Stp} (h : bwS s = bwS t) : s = t := by rw [← bwS_inv s, ← bwS_inv t, h]
theorem bwW_words {w : Str} (h : w = wRead ∨ w = wSwitch ∨ w = wWiden ∨ w = wNarrow) : bwW w = wRead ∨ bwW w = wSwitch ∨ bwW w = wWiden ∨ bwW w = wNarrow := by
  rcases h with rfl | rfl | rfl | rfl
  · exact .inl (by decide +kernel)
  · exact .inr (.inl (by decide +kernel))
  · exact .inr (.inr (.inr (by decide +kernel)))
  · exact .inr (.inr (.inl (by decide +kernel)))
theorem ex_split (c : Chan) : c.ex.kind = kSplit ↔ c.kind = kSplit := by
  have kn := kinds_ne
  unfold Chan.kind
  have e1 : c.ex.ona = c.nao := rfl
  have e2 : c.ex.nao = c.ona := rfl
  rw [e1, e2]
  cases c.ona <;> cases c.nao <;> decide +kernel
theorem ex_wl {svc : List Str} {c : Chan} (oc : OkCh svc c) {w : Str} (h : w ∈ c.wl) : bwW w ∈ c.ex.wl ∧ c.ex.own (bwW w) = c.own w := by
  have wn := words_ne
  have hl := (lawW_mem oc.old oc.new w).mpr h
  have own1 : c.ex.own (bwW w) = c.own w := by
    unfold Chan.own
    have : bwW w = wSwitch ↔ w = wSwitch := ⟨fun e => by rw [← bwW_inv w, e]; decide +kernel, fun e => by rw [e]; decide +kernel⟩
    by_cases e : w = wSwitch
    · rw [if_pos e, if_pos (this.mpr e)]; rfl
    · rw [if_neg e, if_neg (fun z => e (this.mp z))]; rfl
  refine ⟨(lawW_mem (c := c.ex) oc.new oc.old _).mp ?_, own1⟩
  unfold Chan.lawW at hl ⊢
  have eo : c.ex.old = c.new := rfl
  have en : c.ex.new = c.old := rfl
  rw [eo, en]
  rcases List.mem_append.mp hl with h1 | h1
  · by_cases e : c.old.wr = c.new.wr
    · rw [if_pos e] at h1; exact nomatch h1
    · rw [if_neg e] at h1
      refine List.mem_append.mpr (.inl ?_)
      rw [if_neg (fun z => e z.symm), List.mem_singleton.mp h1]
      decide +kernel
  · by_cases e : c.old.nd = c.new.nd ∧ c.old.kn = c.new.kn
    · rw [if_pos e] at h1; exact nomatch h1
    · rw [if_neg e] at h1
      refine List.mem_append.mpr (.inr ?_)
      rw [if_neg (fun z => e ⟨z.1.symm, z.2.symm⟩)]
      by_cases es : c.kind = kSplit
      · rw [if_pos es] at h1
        rw [if_pos ((ex_split c).mpr es)]
        rcases List.mem_cons.mp h1 with rfl | h1
        · decide +kernel
        · rw [List.mem_singleton.mp h1]; decide +kernel
      · rw [if_neg es] at h1
        rw [if_neg (fun z => es ((ex_split c).mp z)), List.mem_singleton.mp h1]
        decide +kernel
theorem ex_ex (c : Chan) : c.ex.ex = c := rfl
theorem exs_ex (cs : List Chan) : (cs.map Chan.ex).map Chan.ex = cs := by
  rw [List.map_map]
  exact List.map_id'' (fun c => rfl) cs
theorem bw_own {svc : List Str} {cs : List Chan} (ho : OkSys svc cs) {o : Str} {s : Stp} (h : s ∈ ownS cs o) : bwS s ∈ ownS (cs.map Chan.ex) o := by
  obtain ⟨c, hc, e1, e2, e3⟩ := ownS_mem.mp h
  obtain ⟨h1, h2⟩ := ex_wl (ho.ch c hc) e2
  exact ownS_mem.mpr ⟨c.ex, List.mem_map.mpr ⟨c, hc, rfl⟩, e1, h1, by show c.ex.own (bwW s.2) = o; rw [h2]; exact e3⟩
theorem bw_all {svc : List Str} {cs : List Chan} (ho : OkSys svc cs) {s : Stp} (h : s ∈ allS cs) : bwS s ∈ allS (cs.map Chan.ex) := ownS_sub (bw_own ho (ownr_own ho h))
theorem bwL_mem {l : List Stp} {s : Stp} : s ∈ bwL l ↔ ∃ t ∈ l, bwS t = s := by
  unfold bwL
  rw [(sortS_perm _).mem_iff, List.mem_map]
theorem bwL_nodup {l : List Stp} (h : l.Nodup) : (l.map bwS).Nodup := List.pairwise_map.mpr (h.imp fun h e => h (bwS_inj e))
theorem OkRel.bw {svc : List Str} {cs : List Chan} (ho : OkSys svc cs) {r : Rel} (h : OkRel cs r) : OkRel (cs.map Chan.ex) (bwR r) := by
  refine ⟨fun e => ?_, sortS_asc (bwL_nodup h.asc.nodup), fun s hs => ?_⟩
  · have := (sortS_perm (r.2.map bwS)).length_eq
    rw [show sortS (r.2.map bwS) = [] from e] at this
    exact h.ne (List.length_eq_zero_iff.mp (by simpa using this.symm))
  · obtain ⟨t, ht, rfl⟩ := bwL_mem.mp hs
    exact bw_own ho (h.own t ht)
theorem bwR_inv {cs : List Chan} {r : Rel} (h : OkRel cs r) : bwR (bwR r) = r := by
  refine Prod.ext rfl ?_
  show bwL (bwL r.2) = r.2
  have nd := bwL_nodup h.asc.nodup
  refine ascS_ext (sortS_asc (bwL_nodup (sortS_asc nd).nodup)) h.asc fun s => ?_
  rw [bwL_mem]
  constructor
  · rintro ⟨t, ht, rfl⟩
    obtain ⟨z, hz, rfl⟩ := bwL_mem.mp ht
    rw [bwS_inv]; exact hz
  · intro hs
    exact ⟨bwS s, bwL_mem.mpr ⟨s, hs, rfl⟩, bwS_inv s⟩
theorem bwP_inv {cs : List Chan} {pl : List Rel} (h : ∀ r ∈ pl, OkRel cs r) : bwP (bwP pl) = pl := by
  unfold bwP
  rw [← List.map_reverse, List.reverse_reverse, List.map_map]
  conv => rhs; rw [← List.map_id pl]
  exact List.map_congr_left fun r hr => bwR_inv (h r hr)
theorem OkPl.bw {svc : List Str} {cs : List Chan} (ho : OkSys svc cs) {pl : List Rel} (h : OkPl cs pl) : OkPl (cs.map Chan.ex) (bwP pl) := by
  have hr : ∀ r ∈ bwP pl, OkRel (cs.map Chan.ex) r := fun r hr => by
    obtain ⟨x, hx, rfl⟩ := List.mem_map.mp hr
    exact (h.rel x (List.mem_reverse.mp hx)).bw ho
  refine ⟨hr, ?_⟩
  have p1 : ∀ l : List Rel, ((l.map bwR).flatMap Prod.snd).Perm ((l.flatMap Prod.snd).map bwS) := by
    intro l
    induction l with
    | nil => simp
    | cons r l ih =>
      rw [List.map_cons, List.flatMap_cons, List.flatMap_cons, List.map_append]
      exact (sortS_perm _).append ih
  have p2 : (pl.reverse.flatMap Prod.snd).Perm (pl.flatMap Prod.snd) := (List.reverse_perm pl).flatMap_right _
  have p3 : ((bwP pl).flatMap Prod.snd).Perm ((allS cs).map bwS) := (p1 _).trans ((p2.trans h.perm).map bwS)
  refine p3.trans ?_
  refine (List.perm_ext_iff_of_nodup (bwL_nodup ho.allS_asc.nodup) ho.ex.allS_asc.nodup).mpr fun s => ?_
  rw [List.mem_map]
  constructor
  · rintro ⟨t, ht, rfl⟩
    exact bw_all ho ht
  · intro hs
    refine ⟨bwS s, ?_, bwS_inv s⟩
    have := bw_all ho.ex hs
    rwa [exs_ex] at this
end Vf

namespace Vf
open PySem PySem.Spec PyProof.Rows L2
open AutoSeq1 (wpAny_loadPart')
/-! ### enumerate(tuple) -/
set_option maxHeartbeats 1000000 in
theorem meets_enumNewT (l : Addr) (items : Array Value) (n : Nat) (dct : Option Addr) (sl : Array (Option Value)) :
    Meets (Builtin.«enumerate.__new__» ⟨[.type "enumerate", .ref l], []⟩) (fun _ R s => s.heap.get? l = some { cls := .type "tuple", dict := dct, data := .seq items n, slots := sl } ∧
      R (.ok (.ret (.ref (s.heap.push { cls := .type "tuple_iterator", data := .fields #[.ref l, .int 0 0] }).objs.size)))
        { s with heap := (s.heap.push { cls := .type "tuple_iterator", data := .fields #[.ref l, .int 0 0] }).push { cls := .type "enumerate", data := .fields #[.none, .bool false, .ref s.heap.objs.size, rawInt 0, .none, .none] } }) :=
  .of_wp fun prog w A R s h => by
    obtain ⟨hp, g, d, tk, os⟩ := s; obtain ⟨hl, h⟩ := h
    have hsub := sub_enumerate
    have hL : Heap.IsTuple (Shared.heap ⟨hp, g, d, tk, os⟩) l items := ⟨_, hl, rfl, n, rfl⟩
    wp_walk using wpAny_loadPart' hl
    refine wpAny_stack_any fun st => wpAny_pure ?_
    split
    · rename_i c _ _ _ _ _
      cases (c == Value.type "enumerate")
      · wp_walk using wpAny_loadPart' hl, wpAny_pyIter_tuple hL
        exact ⟨_, rfl, h⟩
      · wp_walk using wpAny_loadPart' hl, wpAny_pyIter_tuple hL
        exact ⟨_, rfl, h⟩
    · wp_walk using wpAny_loadPart' hl, wpAny_pyIter_tuple hL
      exact ⟨_, rfl, h⟩
theorem call_enumT {prog : Program} {w : World} {A : Around} {E : Value → Shared → Prop} {s : Shared} {l : Addr} {items : Array Value} {Q : Value → Shared → Prop} (hL : s.heap.IsTuple l items)
    (h : ∀ h', IsEnum h' (s.heap.objs.size + 1) s.heap.objs.size 0 .none → h'.IsTupleIter s.heap.objs.size l 0 → h'.objs.size = s.heap.objs.size + 2 →
      (∀ b o, s.heap.get? b = some o → h'.get? b = some o) → Q (.ref (s.heap.objs.size + 1)) { s with heap := h' }) :
    wpAny (model prog w) A (call (.type "enumerate") [.ref l]) Q E s := by
  obtain ⟨⟨c, dct, dt, sl⟩, hl, hc, n, hd⟩ := hL
  replace hc : c = .type "tuple" := hc
  replace hd : dt = .seq items n := hd
  subst hc hd
  refine callType_new F.called_enumerate (by decide) (F.typeCall_enumerate_1 _) (F.newCall_enumerate_1 _) (fun obj => F.args_object_init_2 obj _) F.entry_enumerate_new
    (meets_enumNewT l items n dct sl) ⟨hl, ?_⟩
  have hz : (s.heap.push { cls := .type "tuple_iterator", data := .fields #[.ref l, .int 0 0] }).objs.size = s.heap.objs.size + 1 := Heap.size_push ..
  show _ ∧ _
  rw [hz]
  have he : IsEnum ((s.heap.push { cls := .type "tuple_iterator", data := .fields #[.ref l, .int 0 0] }).push
      { cls := .type "enumerate", data := .fields #[.none, .bool false, .ref s.heap.objs.size, rawInt 0, .none, .none] }) (s.heap.objs.size + 1) s.heap.objs.size 0 .none := by
    have := Heap.get?_push_size (s.heap.push { cls := .type "tuple_iterator", data := .fields #[.ref l, .int 0 0] })
      (o := { cls := .type "enumerate", data := .fields #[.none, .bool false, .ref s.heap.objs.size, rawInt 0, .none, .none] }) rfl
    rw [hz] at this; exact this
  refine ⟨⟨_, he, rfl⟩, h _ he ⟨_, Heap.get?_push_of_some _ (Heap.get?_push_size _ rfl), rfl, rfl⟩ (by rw [Heap.size_push, hz]) fun b o x => Heap.get?_push_of_some _ (Heap.get?_push_of_some _ x)⟩
def IteT (K : PySem.W.Frag) (a : Addr) : It :=
  ⟨fun i H => ∃ (xs : List V) (x : V), SqT K H a xs ∧ xs[i]? = some x, fun i H v H' => ∃ T x, v = .ref T ∧ H T = none ∧ H' = L2.upd H T (.tup [.int (i : Nat), x]) ∧ ∀ xs, SqT K H a xs → xs[i]? = some x, fun i H => ∃ xs : List V, SqT K H a xs ∧ xs.length ≤ i⟩
theorem turn_enumT {P : Program} {w : World} {K : PySem.W.Frag} {elts : List Expr} {kk : Nat} {tpos : Pos} (a e it : Addr) :
    Turn P w K (.Tuple elts kk tpos) (IteT K a) [e, it] e (fun i h => (∃ old, IsEnum h e it ((i : Nat) : Int) old) ∧ h.IsTupleIter it a i ∧ e ≠ it ∧ a ≠ it ∧ a ≠ e) where
  mem := by simp
  obj := fun i h st b hb => by
    obtain ⟨⟨old, he⟩, ⟨o, ho, hc, hd⟩, _⟩ := st
    have e' : b = e ∨ b = it := by simpa using hb
    rcases e' with z | z
    · rw [z]; exact ⟨_, he, fun v q => nomatch q⟩
    · rw [z]; exact ⟨o, ho, fun v q => by rw [hd] at q; cases q⟩
  keep := fun i h h' st k => let ⟨⟨old, he⟩, hi, hne⟩ := st; ⟨⟨old, k e (by simp) _ he⟩, hi.at fun o q => k it (by simp) o q, hne⟩
  item := by
    intro X hP hw hK hc i pins s σ H E I hf st hg
    subst hP hw hK
    obtain ⟨⟨old, he⟩, hit, hne, hai, hae⟩ := st
    obtain ⟨xs, x, hq, hx⟩ := hg
    obtain ⟨its, rv, p, hz⟩ := I.tuple hq
    obtain ⟨u, hu, ru⟩ := rv.get hx
    have hel : e < s.heap.objs.size := Heap.lt_size he
    have hil : it < s.heap.objs.size := by obtain ⟨_, q, _⟩ := hit; exact Heap.lt_size q
    have hlt : i < its.toArray.size := by
      rw [List.size_toArray]; exact (List.getElem?_eq_some_iff.mp hu).1
    refine wpAny_pyNext_enum_itemD (Draws.tuple (A := X.A.in1) (I.ok.hd hc) it a hai its.toArray) he ⟨hit, p⟩ hlt hne (by simp [hne, Ne.symm hae]) fun y h' tk hP ho hs' hT hsz hk => ?_
    have ey : y = u := by
      have hP' : its.toArray[i]? = some y := hP
      rw [List.getElem?_toArray, hu] at hP'
      exact (Option.some.inj hP').symm
    subst ey
    refine ⟨_, rfl, wpAny_letOwnedTupleGo_enum (s := { s with heap := h', toks := tk + 1 }) ho fun h'' he' sb => ?_⟩
    have hT2 : h''.get? s.heap.objs.size = some { cls := .type "tuple", data := .seq #[.int i tk, y] } := (sb.2 _ (Nat.ne_of_gt hel)).trans hT
    have new : ObjOk X.prog X.w (L2.upd H s.heap.objs.size (.tup [.int (i : Nat), x])) h'' s.heap.objs.size (.tup [.int (i : Nat), x]) :=
      ⟨by show 2 ≤ sizeLine; decide, [.int i tk, y], .cons ⟨_, rfl⟩ (.cons ru .nil), ⟨_, hT2, rfl, _, rfl⟩⟩
    have I1 : Inv X pins σ (L2.upd H s.heap.objs.size (.tup [.int (i : Nat), x])) { s with heap := h'', toks := tk + 1 } :=
      I.turnedNew (ch := [e, it]) (fun b ob hb q => (sb.2 b (fun z => hb (by simp [z]))).trans (hk b ob (fun z => hb (by simp [z])) (fun z => hb (by simp [z])) q)) hf (Nat.le_refl _) new
    refine ⟨.ref s.heap.objs.size, _, I1, rfl, ⟨_, x, rfl, I.hok.fresh (Nat.le_refl _), rfl, fun ys hy => by rw [I.tuple_inj hy hq]; exact hx⟩, ⟨⟨y, ?_⟩, hs'.1.at fun o q => (sb.2 it (Ne.symm hne)).trans q, hne, hai, hae⟩, fun b hb => ?_⟩
    · have e1 : ((i + 1 : Nat) : Int) = (i : Int) + 1 := by omega
      rw [e1]; exact he'
    · have hb' : b < s.heap.objs.size := by
        have e' : b = e ∨ b = it := by simpa using hb
        rcases e' with z | z
        · rw [z]; exact hel
        · rw [z]; exact hil
      rw [upd_ne (Nat.ne_of_lt hb')]
      exact (hf b hb).1
  done := by
    intro X hP hw hK hc i pins s σ H E I hf st hg
    subst hP hw hK
    obtain ⟨⟨old, he⟩, hit, hne, hai, hae⟩ := st
    obtain ⟨xs, hq, hx⟩ := hg
    obtain ⟨its, rv, p, hz⟩ := I.tuple hq
    obtain ⟨f0, f1, f2, f3, f4, f5⟩ := hf it (by simp)
    have hl := rv.length
    have D : Draws X.prog X.w X.A.in1 it [it, a] i (fun _ _ => False) (fun j h => j = i ∧ h.IsTupleIter it a i ∧ h.IsTuple a its.toArray) := by
      refine ⟨fun j h st => ?_, fun j h h' st hk => ?_, fun j s Q E hj st _ => ?_, fun s Q E st hE => ?_⟩
      · obtain ⟨o, ho, _⟩ := st.2.1; exact ⟨o, ho⟩
      · exact ⟨st.1, st.2.1.at fun o e => hk it (by simp) o e, st.2.2.at fun o e => hk a (by simp) o e⟩
      · have := st.1; omega
      · exact wpAny_nextOf_tuple_end (show X.A.in1.handled = none from I.ok.hd hc) st.2.1 st.2.2 (by simp; omega) hE
    exact wpAny_pyNext_enum_endD D he ⟨rfl, hit, p⟩ fun h' eb => ⟨rfl, I.turned (t' := s.toks) (fun b o hb q => eb b o hb q) f0 f1 f3 f4 f5⟩
  self := fun A i s Q E st h => let ⟨⟨_, he⟩, _⟩ := st; wpAny_pyIter_enum he h
def iEnumT (K : PySem.W.Frag) (ta : TA) : TI := fun σ H R => ta σ H fun vs H1 => ∃ a xs, vs = [.ref a] ∧ SqT K H1 a xs ∧ R (IteT K a) H1
theorem pi_enumT {X : Cx} {e : Expr} {ta : TA} {p pos tpos : Pos} {elts : List Expr} {kk : Nat} (hg : Gl X "enumerate") (hm : X.mg "enumerate" = none) (ha : PA X [e] ta) (hs : starEach [e] X.env = [(false, eval e X.env)] := by rfl) :
    PI X (.Tuple elts kk tpos) (.Call (.Name "enumerate" p) [e] [] pos) (iEnumT X.K ta) := by
  refine ⟨fun pins s σ H R I h => ?_⟩
  refine Call_ (ld_blt I hg hm boot_enumerate (PyProof.Rows.callWith_type1 (thn (ha.run pos pins s σ H _ I h) fun us s1 ⟨vs, H1, I1, r1, q1⟩ => ?_) hs rfl))
  obtain ⟨a, xs, ex, hq, q⟩ := q1
  subst ex
  cases r1 with
  | cons r rr =>
    cases rr
    cases r
    obtain ⟨its, rv, p', hz⟩ := I1.tuple hq
    have hal : a < s1.heap.objs.size := by obtain ⟨o, ho, _⟩ := p'; exact Heap.lt_size ho
    refine call_enumT p' fun h' he hit hsz hk => wpAny_pyIter_enum he ?_
    have I2 : Inv X pins σ H1 { s1 with heap := h' } := I1.kept (t' := s1.toks) hk
    refine ⟨s1.heap.objs.size + 1, [s1.heap.objs.size + 1, s1.heap.objs.size], _, _, H1, rfl, I2, turn_enumT a (s1.heap.objs.size + 1) s1.heap.objs.size, ⟨⟨.none, he⟩, hit, Nat.succ_ne_self _, Nat.ne_of_lt hal, Nat.ne_of_lt (Nat.lt_succ_of_lt hal)⟩, fun b hb => ?_, q⟩
    have e' : b = s1.heap.objs.size + 1 ∨ b = s1.heap.objs.size := by simpa using hb
    have hle : s1.heap.objs.size ≤ b := by
      rcases e' with z | z
      · rw [z]; exact Nat.le_add_right _ _
      · rw [z]; exact Nat.le_refl _
    exact I1.fpOk hle (I1.hok.fresh hle)
theorem walk_enumT {K : PySem.W.Frag} {a : Addr} {xs : List V} : Walk (IteT K a) xs.length (fun H => SqT K H a xs) (YPair (fun i => some (.int (i : Nat))) (fun i => xs[i]?)) := by
  refine ⟨fun i _ hi q => ⟨xs, xs[i], q, by simp [hi]⟩, fun _ q => ⟨xs, q, Nat.le_refl _⟩, fun i H v H' _ q y => ?_⟩
  obtain ⟨T, x, h1, h2, h3, h4⟩ := y
  exact ⟨T, .int (i : Nat), x, h1, h2, h3, rfl, h4 xs q⟩
/-- (0, x), (1, y), .. -/
def enumD (n : Nat) : List D → List D
  | [] => []
  | x :: xs => .tup [.int (n : Nat), x] :: enumD (n + 1) xs
theorem enumD_len : ∀ (n : Nat) (xs : List D), (enumD n xs).length = xs.length
  | _, [] => rfl
  | n, x :: xs => by unfold enumD; simp [enumD_len (n + 1) xs]
theorem enumD_at : ∀ (n i : Nat) (xs : List D), (enumD n xs)[i]? = xs[i]?.map fun x => D.tup [.int ((n + i : Nat)), x]
  | _, _, [] => by simp [enumD]
  | n, 0, x :: xs => by simp [enumD]
  | n, i + 1, x :: xs => by
    unfold enumD
    rw [List.getElem?_cons_succ, List.getElem?_cons_succ, enumD_at (n + 1) i xs, show n + 1 + i = n + (i + 1) by omega]
def wEnum (w : WL) : WI := fun ρ h k => w ρ h fun as h1 => ∃ ds, as = [.tup ds] ∧ k ⟨enumD 0 ds, fun _ => True⟩ h1
theorem di_enumerate {X : Cx} {e : Expr} {w : WL} {p pos tpos : Pos} {elts : List Expr} {kk : Nat} (hg : Gl X "enumerate") (hm : X.mg "enumerate" = none) (ha : DA X [e] w) (hs : starEach [e] X.env = [(false, eval e X.env)] := by rfl) :
    DI X (.Tuple elts kk tpos) (.Call (.Name "enumerate" p) [e] [] pos) (wEnum w) := by
  refine PI.imp (pi_enumT hg hm ha hs) fun σ H R ⟨m, ρ, h, k, rs, rh, q, f⟩ => ⟨m, ρ, h, _, rs, rh, q, fun as h1 vs m1 H1 s1 rh1 rd ⟨ds, e, q1⟩ => ?_⟩
  subst e
  obtain ⟨u, rfl, r1⟩ := rd.one
  unfold RelD at r1
  obtain ⟨a, xs, rfl, ta, ra⟩ := r1
  refine ⟨a, xs, rfl, ta.sq, f _ h1 m1 H1 _ s1 rh1 ⟨_, _, by rw [show (enumD 0 ds).length = xs.length by rw [enumD_len, ra.length]]; exact walk_enumT, fun m2 H2 h2 s2 _ _ => (ta.mv s2).sq, fun i m2 H2 x H3 h2 s2 rh2 _ y => ?_⟩ q1⟩
  obtain ⟨T, u, v, rfl, hT, rfl, e1, e2⟩ := y
  cases e1
  obtain ⟨d, f2, g2⟩ := (ra.mv s2).at e2
  refine ⟨.tup [.int (i : Nat), d], ?_, Step.new rh2 _ hT, rh2.new _ hT, .tupNew rh2 hT ?_⟩
  · show (enumD 0 ds)[i]? = _
    rw [enumD_at, f2, Nat.zero_add]; rfl
  · unfold RelDs RelDs RelDs
    exact ⟨_, _, rfl, by unfold RelD; rfl, v, _, rfl, g2, rfl⟩
end Vf

namespace Vf
open PySem PySem.Spec PyProof.Rows L2
/-! ### the first fault of a plan -/
noncomputable def faultL (cs : List Chan) : Nat → List Stp → List Rel → Option (Nat × Str)
  | _, _, [] => none
  | n, p, r :: rs => match (refdL cs p (p ++ r.2)).head? with | some x => some (n, x) | none => faultL cs (n + 1) (p ++ r.2) rs
theorem faultL_hit {cs : List Chan} {n : Nat} {p : List Stp} {r : Rel} {rs : List Rel} {y : Str} (h : (refdL cs p (p ++ r.2)).head? = some y) : faultL cs n p (r :: rs) = some (n, y) := by
  show (match (refdL cs p (p ++ r.2)).head? with | some x => some (n, x) | none => faultL cs (n + 1) (p ++ r.2) rs) = _
  rw [h]
theorem faultL_go {cs : List Chan} {n : Nat} {p : List Stp} {r : Rel} {rs : List Rel} (h : (refdL cs p (p ++ r.2)).head? = none) : faultL cs n p (r :: rs) = faultL cs (n + 1) (p ++ r.2) rs := by
  show (match (refdL cs p (p ++ r.2)).head? with | some x => some (n, x) | none => faultL cs (n + 1) (p ++ r.2) rs) = _
  rw [h]
def faultD : Option (Nat × Str) → D
  | none => .non
  | some (n, x) => .tup [.int (n : Nat), .str x]
def optD : Option Str → D
  | none => .non
  | some x => .str x
theorem refd4_all {r1 r2 : List Str × List Str} {w1 w2 : List Str} (h : refd4 r1 r2 w1 w2 = false) : refd4 r2 r2 w2 w2 = false := by
  unfold refd4 at h ⊢
  cases h1 : acc r1.1 r1.2 w1 <;> cases h2 : acc r1.1 r1.2 w2 <;> cases h3 : acc r2.1 r2.2 w1 <;> cases h4 : acc r2.1 r2.2 w2 <;> simp_all
theorem refd_after {c : Chan} {p q : List Stp} (h : c.refd p q = false) : c.refd q q = false := refd4_all h
theorem refd_begin {svc : List Str} {c : Chan} (oc : OkCh svc c) : c.refd [] [] = false := by
  unfold Chan.refd refd4 Chan.rdAt Chan.wrAt
  simp [oc.old.acc]
theorem refd_untouched {c : Chan} {p q : List Stp} (h : ∀ s ∈ q, s.1 ≠ c.nm) : c.refd p (p ++ q) = c.refd p p := by
  have no : ∀ w, ((c.nm, w) ∈ p ++ q) = ((c.nm, w) ∈ p) := fun w => by
    rw [List.mem_append, eq_iff_iff]
    exact ⟨fun z => z.elim (fun z => z) fun z => absurd rfl (h _ z), .inl⟩
  have e1 : c.wrAt (p ++ q) = c.wrAt p := by unfold Chan.wrAt; simp only [no]
  have e2 : c.rdAt (p ++ q) = c.rdAt p := by unfold Chan.rdAt; simp only [no]
  unfold Chan.refd
  rw [e1, e2]
/-- only the channels of the new steps need be asked -/
theorem refdL_touched {cs : List Chan} {p q : List Stp} (h : ∀ c ∈ cs, c.refd p p = false) : refdL (cs.filter fun c => decide (c.nm ∈ q.map Prod.fst)) p (p ++ q) = refdL cs p (p ++ q) := by
  unfold refdL
  rw [List.filter_filter]
  congr 1
  refine List.filter_congr fun c hc => ?_
  by_cases e : c.nm ∈ q.map Prod.fst
  · rw [decide_eq_true e, Bool.and_true]
  · rw [decide_eq_false e, Bool.and_false, refd_untouched, h c hc]
    intro s hs z
    exact e (List.mem_map.mpr ⟨s, hs, z⟩)
theorem refdL_none {cs : List Chan} {p q : List Stp} (h : (refdL cs p q).head? = none) : ∀ c ∈ cs, c.refd p q = false := by
  intro c hc
  have h1 : refdL cs p q = [] := List.head?_eq_none_iff.mp h
  cases e : c.refd p q with
  | false => rfl
  | true =>
    have : c.nm ∈ refdL cs p q := List.mem_map.mpr ⟨c, List.mem_filter.mpr ⟨hc, e⟩, rfl⟩
    rw [h1] at this; exact nomatch this
theorem refdL_mem {cs : List Chan} {p q : List Stp} {x : Str} (h : x ∈ refdL cs p q) : ∃ c ∈ cs, x = c.nm := by
  obtain ⟨c, hc, rfl⟩ := List.mem_map.mp h
  exact ⟨c, (List.mem_filter.mp hc).1, rfl⟩
theorem refdL_len (cs : List Chan) (p q : List Stp) : (refdL cs p q).length ≤ cs.length := by
  unfold refdL; rw [List.length_map]; exact List.length_filter_le _ _
theorem fault_name {svc : List Str} {cs : List Chan} (ho : OkSys svc cs) : ∀ {pl : List Rel} {n : Nat} {p : List Stp} {m : Nat} {x : Str}, faultL cs n p pl = some (m, x) → nameOk x ∧ m < n + pl.length
  | [], n, p, m, x, h => by unfold faultL at h; exact nomatch h
  | r :: rs, n, p, m, x, h => by
    unfold faultL at h
    cases e : (refdL cs p (p ++ r.2)).head? with
    | none =>
      rw [e] at h
      have := fault_name ho h
      exact ⟨this.1, by simp only [List.length_cons]; omega⟩
    | some y =>
      rw [e] at h
      cases h
      obtain ⟨c, hc, e2⟩ := refdL_mem (List.mem_of_mem_head? e)
      exact ⟨by rw [e2]; exact (ho.ch c hc).nm, by simp only [List.length_cons]; omega⟩
theorem Sm.int127 {n : Nat} (h : n < 128) : Sm 0 20 (.int (n : Nat)) := by
  have key : ∀ m : Fin 128, ((PyData.int (m.val : Nat)).intsShort 13 && decide ((PyData.int (m.val : Nat)).weight ≤ 20) && (PyData.int (m.val : Nat)).showable) = true := by decide +kernel
  have k := key ⟨n, h⟩
  rw [Bool.and_eq_true, Bool.and_eq_true] at k
  refine ⟨rfl, ?_, ?_, ?_, ?_, ?_⟩
  · unfold toPy PyData.canLay0; rfl
  · unfold toPy PyData.depth; exact Nat.le_refl _
  · unfold toPy; exact of_decide_eq_true k.1.2
  · unfold toPy; exact k.1.1
  · unfold toPy; exact k.2
theorem Sm.bl (b : Bool) : Sm 0 0 (.bl b) := by
  refine ⟨rfl, ?_, ?_, ?_, ?_, ?_⟩ <;> unfold toPy <;> first | rfl | exact Nat.le_refl _
theorem Sm.non : Sm 0 0 .non := by
  refine ⟨rfl, ?_, ?_, ?_, ?_, ?_⟩ <;> unfold toPy <;> first | rfl | exact Nat.le_refl _
theorem fault_sm {svc : List Str} {cs : List Chan} (ho : OkSys svc cs) {pl : List Rel} (hp : OkPl cs pl) : Sm 1 40 (faultD (faultL cs 0 [] pl)) := by
  cases e : faultL cs 0 [] pl with
  | none => exact Sm.non.mono (by decide) (by decide)
  | some x =>
    obtain ⟨m, x⟩ := x
    obtain ⟨h1, h2⟩ := fault_name ho e
    have := hp.len ho
    exact ((Sm.int127 (by omega)).two (Sm.name h1)).mono (by decide) (by decide)
theorem fault_is {o : Option (Nat × Str)} {h : DH} {k : K1} (q : k (.bl o.isNone) h) : wIs (fun b => b) (faultD o) .non h k := by
  cases o with
  | none => exact q
  | some x => exact q
end Vf

namespace Vf
open PySem PySem.Spec PyProof.Rows L2
/-! ### a message is refused exactly where an order pair is broken -/
theorem kind_vals (c : Chan) : (c.kind = kFree → c.ona = true ∧ c.nao = true) ∧ (c.kind = kReader → c.ona = false ∧ c.nao = true) ∧ (c.kind = kWriter → c.ona = true ∧ c.nao = false) ∧ (c.kind = kSplit → c.ona = false ∧ c.nao = false) := by
  unfold Chan.kind
  cases c.ona <;> cases c.nao <;> decide +kernel
def Chan.prs (c : Chan) : List Prs := c.nbs.map nbPr
/-- some order pair of the channel is broken -/
def Brk (c : Chan) (p q : List Stp) : Prop := ∃ pr ∈ c.prs, pr.2 ∈ q ∧ pr.1 ∉ p
def Kpt (c : Chan) (p : List Stp) : Prop := ∀ pr ∈ c.prs, pr.2 ∈ p → pr.1 ∈ p
theorem prs_kind (c : Chan) : (c.kind = kFree → c.prs = []) ∧ (c.kind = kReader → c.prs = [((c.nm, wRead), (c.nm, wSwitch))]) ∧ (c.kind = kWriter → c.prs = [((c.nm, wSwitch), (c.nm, wRead))]) ∧ (c.kind = kSplit → c.prs = [((c.nm, wWiden), (c.nm, wSwitch)), ((c.nm, wSwitch), (c.nm, wNarrow))]) := by
  have kn := kinds_ne
  unfold Chan.prs
  rw [c.nbs_kind]
  refine ⟨fun e => ?_, fun e => ?_, fun e => ?_, fun e => ?_⟩
  · rw [if_neg (by rw [e]; exact kn.1), if_neg (by rw [e]; exact kn.2.1), if_neg (by rw [e]; exact kn.2.2.1)]; rfl
  · rw [if_pos e]; rfl
  · rw [if_neg (by rw [e]; exact kn.2.2.2.1.symm), if_pos e]; rfl
  · rw [if_neg (by rw [e]; exact kn.2.2.2.2.1.symm), if_neg (by rw [e]; exact kn.2.2.2.2.2.symm), if_pos e]; rfl
theorem refd_brk {svc : List Str} {cs : List Chan} (ho : OkSys svc cs) {c : Chan} (hc : c ∈ cs) {p q : List Stp} (hp : ∀ s ∈ p, s ∈ allS cs) (hq : ∀ s ∈ q, s ∈ allS cs) (kp : Kpt c p) : c.refd p (p ++ q) = true ↔ Brk c p q := by
  have oc := ho.ch c hc
  have wn := words_ne
  have aoo : Vf.acc c.old.nd c.old.kn c.old.wr = true := oc.old.acc
  have ann : Vf.acc c.new.nd c.new.kn c.new.wr = true := oc.new.acc
  have aon : Vf.acc c.old.nd c.old.kn c.new.wr = c.ona := rfl
  have ano : Vf.acc c.new.nd c.new.kn c.old.wr = c.nao := rfl
  obtain ⟨awo, awn⟩ := oc.acc_wide
  obtain ⟨v1, v2, v3, v4⟩ := kind_vals c
  obtain ⟨b1, b2, b3, b4⟩ := prs_kind c
  obtain ⟨k1, k2, k3, k4⟩ := c.wl_kind
  have nop : ∀ w, w ∉ c.wl → (c.nm, w) ∉ p := fun w hw z => by
    obtain ⟨d, hd, e1, e2⟩ := allS_mem.mp (hp _ z)
    rw [← ho.uniq hc hd e1] at e2; exact hw e2
  have noq : ∀ w, w ∉ c.wl → (c.nm, w) ∉ q := fun w hw z => by
    obtain ⟨d, hd, e1, e2⟩ := allS_mem.mp (hq _ z)
    rw [← ho.uniq hc hd e1] at e2; exact hw e2
  unfold Brk
  unfold Kpt at kp
  unfold Chan.refd refd4 Chan.rdAt Chan.wrAt
  simp only [List.mem_append]
  rcases c.kind4 with e | e | e | e
  · obtain ⟨o1, o2⟩ := v1 e
    rw [b1 e]
    have nw : wWiden ∉ c.wl ∧ wNarrow ∉ c.wl := by
      unfold Chan.wl
      rw [Chan.wl_free e]
      by_cases e1 : c.old.wr = c.new.wr <;> by_cases e2 : c.old.nd = c.new.nd ∧ c.old.kn = c.new.kn
      · rw [if_pos e1, if_pos e2]; simp
      · rw [if_pos e1, if_neg e2]; decide +kernel
      · rw [if_neg e1, if_pos e2]; decide +kernel
      · rw [if_neg e1, if_neg e2]; decide +kernel
    have p1 := nop _ nw.1
    have p2 := nop _ nw.2
    have q1 := noq _ nw.1
    have q2 := noq _ nw.2
    simp only [p1, p2, q1, q2, or_false, false_or, if_false]
    by_cases r1 : (c.nm, wRead) ∈ p <;> by_cases r2 : (c.nm, wRead) ∈ q <;> by_cases s1 : (c.nm, wSwitch) ∈ p <;> by_cases s2 : (c.nm, wSwitch) ∈ q <;> simp [r1, r2, s1, s2, aoo, ann, aon, ano, o1, o2]
  · obtain ⟨o1, o2⟩ := v2 e
    rw [b2 e] at kp ⊢
    have nw : wWiden ∉ c.wl ∧ wNarrow ∉ c.wl := by rw [k1 e]; decide +kernel
    have p1 := nop _ nw.1
    have p2 := nop _ nw.2
    have q1 := noq _ nw.1
    have q2 := noq _ nw.2
    have kp := kp _ (List.mem_singleton.mpr rfl)
    simp only [p1, p2, q1, q2, or_false, false_or, if_false]
    by_cases r1 : (c.nm, wRead) ∈ p <;> by_cases r2 : (c.nm, wRead) ∈ q <;> by_cases s1 : (c.nm, wSwitch) ∈ p <;> by_cases s2 : (c.nm, wSwitch) ∈ q <;> simp [r1, r2, s1, s2, aoo, ann, aon, ano, o1, o2] at kp ⊢
  · obtain ⟨o1, o2⟩ := v3 e
    rw [b3 e] at kp ⊢
    have nw : wWiden ∉ c.wl ∧ wNarrow ∉ c.wl := by rw [k2 e]; decide +kernel
    have p1 := nop _ nw.1
    have p2 := nop _ nw.2
    have q1 := noq _ nw.1
    have q2 := noq _ nw.2
    have kp := kp _ (List.mem_singleton.mpr rfl)
    simp only [p1, p2, q1, q2, or_false, false_or, if_false]
    by_cases r1 : (c.nm, wRead) ∈ p <;> by_cases r2 : (c.nm, wRead) ∈ q <;> by_cases s1 : (c.nm, wSwitch) ∈ p <;> by_cases s2 : (c.nm, wSwitch) ∈ q <;> simp [r1, r2, s1, s2, aoo, ann, aon, ano, o1, o2] at kp ⊢
  · obtain ⟨o1, o2⟩ := v4 e
    rw [b4 e] at kp ⊢
    have nw : wRead ∉ c.wl := by rw [k3 e]; decide +kernel
    have p1 := nop _ nw
    have q1 := noq _ nw
    have kp1 := kp _ List.mem_cons_self
    have kp2 := kp _ (List.mem_cons_of_mem _ (List.mem_singleton.mpr rfl))
    clear kp
    simp only [p1, q1, false_or]
    by_cases w1 : (c.nm, wWiden) ∈ p <;> by_cases w2 : (c.nm, wWiden) ∈ q <;> by_cases r1 : (c.nm, wNarrow) ∈ p <;> by_cases r2 : (c.nm, wNarrow) ∈ q <;> by_cases s1 : (c.nm, wSwitch) ∈ p <;> by_cases s2 : (c.nm, wSwitch) ∈ q <;> simp [w1, w2, r1, r2, s1, s2, aoo, ann, aon, ano, awo, awn, o1, o2] at kp1 kp2 ⊢
theorem prsL_mem {cs : List Chan} {pr : Prs} : pr ∈ prsL cs ↔ ∃ c ∈ cs, pr ∈ c.prs := by
  unfold prsL Chan.prs
  rw [nbL_eq, List.mem_map]
  constructor
  · rintro ⟨x, hx, rfl⟩
    obtain ⟨c, hc, hx⟩ := List.mem_flatMap.mp hx
    exact ⟨c, hc, List.mem_map.mpr ⟨x, hx, rfl⟩⟩
  · rintro ⟨c, hc, h⟩
    obtain ⟨x, hx, rfl⟩ := List.mem_map.mp h
    exact ⟨x, List.mem_flatMap.mpr ⟨c, hc, hx⟩, rfl⟩
theorem prs_nm {c : Chan} {pr : Prs} (h : pr ∈ c.prs) : pr.1.1 = c.nm ∧ pr.2.1 = c.nm := by
  unfold Chan.prs at h
  obtain ⟨x, hx, rfl⟩ := List.mem_map.mp h
  unfold Chan.nbs at hx
  obtain ⟨ws, _, hx⟩ := List.mem_flatMap.mp hx
  obtain ⟨y, _, rfl⟩ := List.mem_map.mp hx
  exact ⟨rfl, rfl⟩
/-- every pair whose second step is done has its first step done -/
def KptL (cs : List Chan) (p : List Stp) : Prop := ∀ pr ∈ prsL cs, pr.2 ∈ p → pr.1 ∈ p
theorem KptL.at {cs : List Chan} {p : List Stp} (h : KptL cs p) {c : Chan} (hc : c ∈ cs) : Kpt c p := fun pr hpr => h pr (prsL_mem.mpr ⟨c, hc, hpr⟩)
/-- the names of the broken pairs, as the law lists them -/
def brkL (cs : List Chan) (p q : List Stp) : List Str := ((sortP (prsL cs)).filter fun pr => decide (pr.2 ∈ q) && !decide (pr.1 ∈ p)).map fun pr => pr.1.1
theorem brkL_mem {cs : List Chan} {p q : List Stp} {x : Str} : x ∈ brkL cs p q ↔ ∃ c ∈ cs, Brk c p q ∧ x = c.nm := by
  unfold brkL
  rw [List.mem_map]
  constructor
  · rintro ⟨pr, h, rfl⟩
    obtain ⟨h1, h2⟩ := List.mem_filter.mp h
    obtain ⟨c, hc, hpr⟩ := prsL_mem.mp ((sortP_perm _).mem_iff.mp h1)
    simp only [Bool.and_eq_true, decide_eq_true_eq, Bool.not_eq_true', decide_eq_false_iff_not] at h2
    exact ⟨c, hc, ⟨pr, hpr, h2.1, h2.2⟩, (prs_nm hpr).1⟩
  · rintro ⟨c, hc, ⟨pr, hpr, h1, h2⟩, rfl⟩
    refine ⟨pr, List.mem_filter.mpr ⟨(sortP_perm _).mem_iff.mpr (prsL_mem.mpr ⟨c, hc, hpr⟩), by simp [h1, h2]⟩, (prs_nm hpr).1⟩
theorem brk_refdL {svc : List Str} {cs : List Chan} (ho : OkSys svc cs) {p q : List Stp} (hp : ∀ s ∈ p, s ∈ allS cs) (hq : ∀ s ∈ q, s ∈ allS cs) (kp : KptL cs p) (x : Str) : x ∈ brkL cs p q ↔ x ∈ refdL cs p (p ++ q) := by
  rw [brkL_mem]
  unfold refdL
  rw [List.mem_map]
  constructor
  · rintro ⟨c, hc, hb, rfl⟩
    exact ⟨c, List.mem_filter.mpr ⟨hc, (refd_brk ho hc hp hq (kp.at hc)).mpr hb⟩, rfl⟩
  · rintro ⟨c, h, rfl⟩
    obtain ⟨hc, h⟩ := List.mem_filter.mp h
    exact ⟨c, hc, (refd_brk ho hc hp hq (kp.at hc)).mp h, rfl⟩
theorem refdL_asc {svc : List Str} {cs : List Chan} (ho : OkSys svc cs) (p q : List Stp) : Asc (refdL cs p q) := List.Pairwise.sublist (List.filter_sublist.map _) ho.casc
/-- kept behind a release in which nothing is refused -/
theorem kpt_after {cs : List Chan} {p q : List Stp} (kp : KptL cs p) (hb : brkL cs p q = []) : KptL cs (p ++ q) := by
  intro pr hpr h2
  rw [List.mem_append] at h2 ⊢
  rcases h2 with h2 | h2
  · exact .inl (kp pr hpr h2)
  · by_cases h1 : pr.1 ∈ p
    · exact .inl h1
    · obtain ⟨c, hc, hc2⟩ := prsL_mem.mp hpr
      have : c.nm ∈ brkL cs p q := brkL_mem.mpr ⟨c, hc, ⟨pr, hc2, h2, h1⟩, rfl⟩
      rw [hb] at this; exact nomatch this
/-- min of texts -/
theorem strLt (a b : Str) : PySem.W.dataLt (.str a) (.str b) = decide (a.cps.toList < b.cps.toList) := by
  show lexLt itemOrd [Sum.inr a.cps.toList] [Sum.inr b.cps.toList] = _
  rw [lex_cons]
  have e : lexLt itemOrd [] [] = false := rfl
  rw [e, Bool.and_false, Bool.or_false]
  rfl
theorem minD_strs : ∀ (xs : List Str) (x : Str), ∃ m, PySem.W.minD (.str x) (xs.map .str) = .str m ∧ m ∈ x :: xs ∧ ∀ y ∈ x :: xs, ¬ y.cps.toList < m.cps.toList
  | [], x => ⟨x, rfl, by simp, fun y hy => by rw [List.mem_singleton.mp hy]; exact List.lt_irrefl _⟩
  | y :: xs, x => by
    have e : PySem.W.minD (.str x) ((y :: xs).map .str) = PySem.W.minD (if PySem.W.dataLt (.str y) (.str x) = true then .str y else .str x) (xs.map .str) := rfl
    rw [e, strLt]
    by_cases h : y.cps.toList < x.cps.toList
    · rw [if_pos (decide_eq_true h)]
      obtain ⟨m, e1, e2, e3⟩ := minD_strs xs y
      refine ⟨m, e1, List.mem_cons_of_mem _ e2, fun z hz => ?_⟩
      rcases List.mem_cons.mp hz with rfl | hz
      · exact fun z => e3 y List.mem_cons_self (List.lt_trans h z)
      · exact e3 z hz
    · rw [if_neg (by simpa using h)]
      obtain ⟨m, e1, e2, e3⟩ := minD_strs xs x
      refine ⟨m, e1, ?_, fun z hz => ?_⟩
      · rcases List.mem_cons.mp e2 with e2 | e2
        · rw [e2]; simp
        · simp [e2]
      · rcases List.mem_cons.mp hz with rfl | hz
        · exact e3 _ List.mem_cons_self
        · rcases List.mem_cons.mp hz with rfl | hz
          · intro z2
            by_cases h3 : x = z
            · rw [← h3] at z2; exact e3 x List.mem_cons_self z2
            · exact e3 x List.mem_cons_self (List.lt_trans (lt_of_not h (fun e => h3 e)) z2)
          · exact e3 z (List.mem_cons_of_mem _ hz)
section
variable {X : Cx}
def wMinS : WOL := fun ds h k => ∃ (x : Str) (xs : List Str), ds = [.lst ((x :: xs).map .str)] ∧ ∀ m, m ∈ x :: xs → (∀ y ∈ x :: xs, ¬ y.cps.toList < m.cps.toList) → k (.str m) h
theorem toPys_strs : ∀ xs : List Str, toPys (xs.map .str) = xs.map .str
  | [] => rfl
  | x :: xs => by rw [List.map_cons, List.map_cons]; unfold toPys; rw [toPys_strs xs]; rfl
theorem ol_minS {n : Nat} (hc : X.calm = true) (hr : Room n X.A) : OpL X (.builtin "min") wMinS := by
  rintro pins s σ H vs us Q I r ⟨m, h, ds, k, rh, rd, ⟨x, xs, e, q⟩, f⟩
  subst e
  obtain ⟨v, rfl, r1⟩ := rd.one
  have r1' := r1
  unfold RelD at r1
  obtain ⟨a, ws, rfl, ta, ra⟩ := r1
  have ru := r
  rw [Vals.ref1 r]
  have nr : ∀ l : List Str, noRefs (l.map .str) = true := by
    intro l
    induction l with
    | nil => rfl
    | cons y l ih => rw [List.map_cons]; unfold noRefs; rw [ih]; rfl
  have d1 : Dp X.K H (.ref a) (.list (toPys ((x :: xs).map .str))) := .lst ta.sq (ra.dp (nr _))
  obtain ⟨as, rr⟩ := Dp.reads I _ _ (.ref a) d1 rfl
  rw [toPys_strs] at rr
  obtain ⟨vs, pl, rall⟩ : ∃ vs : Array Value, s.heap.IsList a vs ∧ ∃ as, ReadsAll s.heap vs.toList ((x :: xs).map .str) as := by
    cases rr with
    | list ho hc hd ra => exact ⟨_, ⟨_, ho, hc, _, hd⟩, _, ra⟩
  obtain ⟨as, rall⟩ := rall
  have hu := hr.un
  refine PySem.W.min_list_data (vs := vs) (x := .str x) (xs := xs.map .str) (I.ok.hd hc) pl rall ⟨fun y hy z hz => ?_, fun y hy => ?_⟩ ?_ fun i v h' tk bs hv hR hk => ?_
  · have : ∀ l : List Str, ∀ y ∈ l.map PyData.str, ∃ t, y = .str t := fun l y hy => by
      obtain ⟨t, _, rfl⟩ := List.mem_map.mp hy
      exact ⟨t, rfl⟩
    obtain ⟨t1, rfl⟩ := this (x :: xs) y hy
    obtain ⟨t2, rfl⟩ := this (x :: xs) z hz
    rfl
  · have : ∀ l : List Str, ∀ y ∈ l.map PyData.str, ∃ t, y = .str t := fun l y hy => by
      obtain ⟨t, _, rfl⟩ := List.mem_map.mp hy
      exact ⟨t, rfl⟩
    obtain ⟨t1, rfl⟩ := this (x :: xs) y hy
    exact fun z => nomatch z
  · have : ∀ l : List Str, PyData.depthAll (l.map .str) = 0 := by
      intro l
      induction l with
      | nil => rfl
      | cons y l ih => rw [List.map_cons]; unfold PyData.depthAll; rw [ih]; rfl
    have e := this (x :: xs)
    rw [List.map_cons] at e
    rw [e]; omega
  · obtain ⟨mm, e1, e2, e3⟩ := minD_strs xs x
    rw [e1] at hR
    cases hR
    refine ⟨.str mm, H, I.kept (t' := tk) hk, ⟨_, rfl⟩, f.now rh (.strI _) (q mm e2 e3)⟩
end
end Vf

namespace Vf
open PySem PySem.Spec PyProof.Rows L2
/-! ### places in a def -/
def asgE : Stmt → Expr
  | .Assign _ e _ => e
  | _ => .Constant .none 0 ⟨0, 0, 0, 0⟩
def whB : Stmt → List Stmt
  | .While _ b _ _ => b
  | _ => []
def forB : Stmt → List Stmt
  | .For _ _ b _ _ => b
  | _ => []
def ifB : Stmt → List Stmt
  | .If _ b _ _ => b
  | _ => []
def ifE : Stmt → List Stmt
  | .If _ _ b _ => b
  | _ => []
/-- a comprehension over data of one kind, any target -/
theorem lc_fmAT {α : Type} {f : α → D} {T : Tg} {t : WB} {e : W1} {p : α → Bool} {g : α → D} {ok : DH → Prop} {ρ : Rho} {fin : List D → DH → Prop} {h : DH} (hok : ok h) : ∀ {xs : List α} {acc : List D},
    (∀ a ∈ xs, ∃ ρ1, tgD T (f a) ρ = some ρ1 ∧ (∀ k : KB, k (p a) h → t ρ1 h k) ∧ (p a = true → ∀ k : K1, k (g a) h → e ρ1 h k)) → acc.length + xs.length ≤ sizeLine → fin (acc ++ (xs.filter p).map g) h → lcGo T t e ok ρ fin (xs.map f) acc h
  | [], acc, _, _, hf => ⟨hok, by simpa using hf⟩
  | x :: its, acc, ht, hz, hf => by
    rw [List.map_cons]
    obtain ⟨ρ1, e1, h1, h2⟩ := ht x List.mem_cons_self
    refine ⟨hok, ρ1, e1, h1 _ ?_⟩
    cases hp : p x with
    | false =>
      rw [if_neg (by decide)]
      refine lc_fmAT hok (fun y hy => ht y (List.mem_cons_of_mem _ hy)) (by simp at hz; omega) ?_
      rw [List.filter_cons, if_neg (by rw [hp]; decide)] at hf; exact hf
    | true =>
      rw [if_pos rfl]
      refine h2 hp _ ⟨by simp at hz; omega, lc_fmAT hok (fun y hy => ht y (List.mem_cons_of_mem _ hy)) (by simp at hz ⊢; omega) ?_⟩
      rw [List.filter_cons, if_pos hp] at hf
      simpa using hf
theorem lc_mapAT {α : Type} {f : α → D} {T : Tg} {e : W1} {g : α → D} {ok : DH → Prop} {ρ : Rho} {fin : List D → DH → Prop} {h : DH} (hok : ok h) {xs : List α} (hx : ∀ a ∈ xs, ∃ ρ1, tgD T (f a) ρ = some ρ1 ∧ ∀ k : K1, k (g a) h → e ρ1 h k) (hz : xs.length ≤ sizeLine) (hf : fin (xs.map g) h) : lcGo T wYes e ok ρ fin (xs.map f) [] h := by
  refine lc_fmAT (p := fun _ => true) (g := g) hok (fun a ha => ?_) (by simpa using hz) (by rw [List.filter_eq_self.mpr (fun _ _ => rfl)]; simpa using hf)
  obtain ⟨ρ1, e1, h1⟩ := hx a ha
  exact ⟨ρ1, e1, fun k hk => hk, fun _ => h1⟩
/-! ### a step that comes first -/
def rkS (cs : List Chan) (s : Stp) : Nat := match cs.find? (fun c => decide (c.nm = s.1)) with
  | some c => if s.2 = wSwitch then 1 else if s.2 = wRead then (if c.kind = kReader then 0 else 2) else if s.2 = wWiden then 0 else 2
  | none => 0
theorem rkS_at {svc : List Str} {cs : List Chan} (ho : OkSys svc cs) {c : Chan} (hc : c ∈ cs) (w : Str) : rkS cs (c.nm, w) = if w = wSwitch then 1 else if w = wRead then (if c.kind = kReader then 0 else 2) else if w = wWiden then 0 else 2 := by
  unfold rkS
  cases hf : cs.find? (fun d => decide (d.nm = (c.nm, w).1)) with
  | none => exact absurd (List.find?_eq_none.mp hf c hc) (by simp)
  | some d =>
    have e1 := List.find?_some hf
    have e2 := List.mem_of_find?_eq_some hf
    rw [ho.uniq e2 hc (by simpa using e1)]
theorem rk_pair {svc : List Str} {cs : List Chan} (ho : OkSys svc cs) {pr : Prs} (h : pr ∈ prsL cs) : rkS cs pr.1 < rkS cs pr.2 := by
  obtain ⟨c, hc, h⟩ := prsL_mem.mp h
  obtain ⟨b1, b2, b3, b4⟩ := prs_kind c
  have wn := words_ne
  have kn := kinds_ne
  rcases c.kind4 with e | e | e | e
  · rw [b1 e] at h; exact nomatch h
  · rw [b2 e] at h
    rw [List.mem_singleton.mp h, rkS_at ho hc, rkS_at ho hc, if_neg wn.1, if_pos rfl, if_pos e, if_pos rfl]; decide
  · rw [b3 e] at h
    rw [List.mem_singleton.mp h, rkS_at ho hc, rkS_at ho hc, if_pos rfl, if_neg wn.1, if_pos rfl, if_neg (by rw [e]; exact kn.2.2.2.1.symm)]; decide
  · rw [b4 e] at h
    rcases List.mem_cons.mp h with rfl | h
    · rw [rkS_at ho hc, rkS_at ho hc, if_neg wn.2.2.2.1.symm, if_neg wn.2.1.symm, if_pos rfl, if_pos rfl]; decide
    · rw [List.mem_singleton.mp h, rkS_at ho hc, rkS_at ho hc, if_pos rfl, if_neg wn.2.2.2.2.1.symm, if_neg wn.2.2.1.symm, if_neg wn.2.2.2.2.2.symm]; decide
theorem min_ex {α : Type} (f : α → Nat) : ∀ l : List α, l ≠ [] → ∃ x ∈ l, ∀ y ∈ l, f x ≤ f y
  | [], h => absurd rfl h
  | [x], _ => ⟨x, by simp, fun y hy => by rw [List.mem_singleton.mp hy]; exact Nat.le_refl _⟩
  | x :: z :: l, _ => by
    obtain ⟨y, hy, h⟩ := min_ex f (z :: l) (by simp)
    by_cases c : f x ≤ f y
    · exact ⟨x, by simp, fun w hw => by
        rcases List.mem_cons.mp hw with rfl | hw
        · exact Nat.le_refl _
        · exact Nat.le_trans c (h w hw)⟩
    · exact ⟨y, List.mem_cons_of_mem _ hy, fun w hw => by
        rcases List.mem_cons.mp hw with rfl | hw
        · omega
        · exact h w hw⟩
theorem free_ex {svc : List Str} {cs : List Chan} (ho : OkSys svc cs) {ls : List Stp} (h : ls ≠ []) : ∃ s ∈ ls, ∀ pr ∈ prsL cs, pr.2 = s → pr.1 ∉ ls := by
  obtain ⟨s, hs, hm⟩ := min_ex (rkS cs) ls h
  refine ⟨s, hs, fun pr hpr e z => ?_⟩
  have h1 := rk_pair ho hpr
  have h2 := hm _ z
  rw [e] at h1
  omega
/-! ### plans that keep the order pairs -/
def KptFrom (cs : List Chan) : List Stp → List Rel → Prop
  | _, [] => True
  | p, r :: rs => (∀ pr ∈ prsL cs, pr.2 ∈ r.2 → pr.1 ∈ p) ∧ KptFrom cs (p ++ r.2) rs
theorem kptFrom_app {cs : List Chan} : ∀ {a b : List Rel} {p : List Stp}, KptFrom cs p (a ++ b) ↔ KptFrom cs p a ∧ KptFrom cs (p ++ a.flatMap Prod.snd) b
  | [], b, p => by
    rw [List.nil_append, List.flatMap_nil, List.append_nil]
    exact ⟨fun h => ⟨trivial, h⟩, fun h => h.2⟩
  | r :: a, b, p => by
    rw [List.cons_append, List.flatMap_cons, ← List.append_assoc]
    show _ ∧ KptFrom cs (p ++ r.2) (a ++ b) ↔ (_ ∧ KptFrom cs (p ++ r.2) a) ∧ _
    rw [kptFrom_app]
    exact and_assoc.symm
theorem kptFrom_cong {cs : List Chan} : ∀ {rs : List Rel} {p q : List Stp}, (∀ s, s ∈ p ↔ s ∈ q) → KptFrom cs p rs → KptFrom cs q rs
  | [], _, _, _, _ => trivial
  | r :: rs, p, q, h, k => ⟨fun pr hpr h2 => (h _).mp (k.1 pr hpr h2), kptFrom_cong (fun s => by rw [List.mem_append, List.mem_append, h s]) k.2⟩
theorem fault_none {svc : List Str} {cs : List Chan} (ho : OkSys svc cs) : ∀ {rs : List Rel} {n : Nat} {p : List Stp}, (∀ s ∈ p, s ∈ allS cs) → (∀ r ∈ rs, ∀ s ∈ r.2, s ∈ allS cs) → KptL cs p → KptFrom cs p rs → faultL cs n p rs = none
  | [], _, _, _, _, _, _ => rfl
  | r :: rs, n, p, hp, hr, kp, kf => by
    have hq := hr r List.mem_cons_self
    have hb : brkL cs p r.2 = [] := by
      rw [List.eq_nil_iff_forall_not_mem]
      intro x hx
      obtain ⟨c, hc, ⟨pr, hpr, h1, h2⟩, _⟩ := brkL_mem.mp hx
      exact h2 (kf.1 pr (prsL_mem.mpr ⟨c, hc, hpr⟩) h1)
    have hz : refdL cs p (p ++ r.2) = [] := by
      rw [List.eq_nil_iff_forall_not_mem]
      intro x hx
      have := (brk_refdL ho hp hq kp x).mpr hx
      rw [hb] at this; exact nomatch this
    rw [faultL_go (by rw [hz]; rfl)]
    refine fault_none ho (fun s hs => ?_) (fun x hx => hr x (List.mem_cons_of_mem _ hx)) (kpt_after kp hb) kf.2
    rcases List.mem_append.mp hs with hs | hs
    · exact hp s hs
    · exact hq s hs
theorem kptL_nil (cs : List Chan) : KptL cs [] := fun pr _ h => nomatch h
theorem OkPl.sub {cs : List Chan} {pl : List Rel} (h : OkPl cs pl) : ∀ r ∈ pl, ∀ s ∈ r.2, s ∈ allS cs := fun r hr s hs => h.perm.mem_iff.mp (List.mem_flatMap.mpr ⟨r, hr, hs⟩)
theorem OkPl.safe {svc : List Str} {cs : List Chan} (ho : OkSys svc cs) {pl : List Rel} (h : OkPl cs pl) (k : KptFrom cs [] pl) : faultL cs 0 [] pl = none := fault_none ho (fun s hs => (nomatch hs)) h.sub (kptL_nil cs) k
theorem head_min {l : List Str} {m : Str} (ha : Asc l) (hm : m ∈ l) (hl : ∀ y ∈ l, ¬ y.cps.toList < m.cps.toList) : l.head? = some m := by
  cases l with
  | nil => exact nomatch hm
  | cons x l =>
    rcases List.mem_cons.mp hm with e | hm
    · rw [e]; rfl
    · exact absurd ((List.pairwise_cons.mp ha).1 m hm) (hl x List.mem_cons_self)
/-- what the law finds at a release: the least broken channel, or none -/
theorem brk_none {svc : List Str} {cs : List Chan} (ho : OkSys svc cs) {p q : List Stp} (hp : ∀ s ∈ p, s ∈ allS cs) (hq : ∀ s ∈ q, s ∈ allS cs) (kp : KptL cs p) (h : brkL cs p q = []) : (refdL cs p (p ++ q)).head? = none := by
  rw [List.head?_eq_none_iff, List.eq_nil_iff_forall_not_mem]
  intro x hx
  have := (brk_refdL ho hp hq kp x).mpr hx
  rw [h] at this; exact nomatch this
theorem brk_least {svc : List Str} {cs : List Chan} (ho : OkSys svc cs) {p q : List Stp} (hp : ∀ s ∈ p, s ∈ allS cs) (hq : ∀ s ∈ q, s ∈ allS cs) (kp : KptL cs p) {m : Str} (hm : m ∈ brkL cs p q) (hl : ∀ y ∈ brkL cs p q, ¬ y.cps.toList < m.cps.toList) : (refdL cs p (p ++ q)).head? = some m :=
  head_min (refdL_asc ho _ _) ((brk_refdL ho hp hq kp m).mp hm) fun y hy => hl y ((brk_refdL ho hp hq kp y).mpr hy)
/-! ### plans, their parts moved -/
theorem OkPl.of_perm {cs : List Chan} {pl pl' : List Rel} (h : OkPl cs pl) (p : pl'.Perm pl) : OkPl cs pl' := ⟨fun r hr => h.rel r (p.mem_iff.mp hr), (p.flatMap_right _).trans h.perm⟩
theorem split_at {α : Type} (l : List α) (i : Nat) (h : i < l.length) : l = l.take i ++ l[i] :: l.drop (i + 1) := by
  rw [← List.drop_eq_getElem_cons h, List.take_append_drop]
theorem OkPl.join {svc : List Str} {cs : List Chan} (ho : OkSys svc cs) {a b c : List Rel} {r1 r2 : Rel} (h : OkPl cs (a ++ r1 :: (b ++ r2 :: c))) (e : r2.1 = r1.1) : OkPl cs (a ++ (r1.1, sortS (r1.2 ++ r2.2)) :: (b ++ c)) := by
  have nd := h.perm.nodup_iff.mpr ho.allS_asc.nodup
  simp only [List.flatMap_append, List.flatMap_cons] at nd
  have h1 := h.rel r1 (by simp)
  have h2 := h.rel r2 (by simp)
  have nd2 : (r1.2 ++ r2.2).Nodup := by
    have n1 := (List.nodup_append.mp nd).2.1
    have n2 := List.nodup_append.mp n1
    have n3 := (List.nodup_append.mp n2.2.1).2.1
    rw [List.nodup_append]
    exact ⟨n2.1, (List.nodup_append.mp n3).1, fun x hx y hy => n2.2.2 x hx y (by simp [hy])⟩
  refine ⟨fun r hr => ?_, ?_⟩
  · simp only [List.mem_append, List.mem_cons] at hr
    rcases hr with hr | rfl | hr | hr
    · exact h.rel r (by simp [hr])
    · refine ⟨fun z => ?_, sortS_asc nd2, fun s hs => ?_⟩
      · have := (sortS_perm (r1.2 ++ r2.2)).length_eq
        rw [show sortS (r1.2 ++ r2.2) = [] from z] at this
        have := List.length_pos_iff.mpr h1.ne
        simp at *; omega
      · rcases List.mem_append.mp ((sortS_perm _).mem_iff.mp hs) with hs | hs
        · exact h1.own s hs
        · have := h2.own s hs
          rw [e] at this; exact this
    · exact h.rel r (by simp [hr])
    · exact h.rel r (by simp [hr])
  · refine List.Perm.trans ?_ h.perm
    simp only [List.flatMap_append, List.flatMap_cons]
    refine List.Perm.append_left _ ?_
    refine ((sortS_perm _).append_right _).trans ?_
    rw [List.append_assoc]
    refine List.Perm.append_left _ ?_
    rw [← List.append_assoc, ← List.append_assoc]
    exact List.perm_append_comm.append_right _
theorem cut_toN (xs : List D) (i : Nat) : cutD xs none (some (i : Int)) = xs.take i := by
  unfold cutD
  rw [HT.sIx_nat]
  show (xs.drop 0).take (min i xs.length - 0) = _
  rw [List.drop_zero, Nat.sub_zero]
  by_cases h : i ≤ xs.length
  · rw [Nat.min_eq_left h]
  · rw [Nat.min_eq_right (by omega), List.take_length, List.take_of_length_le (by omega)]
theorem cut_fromN (xs : List D) (i : Nat) : cutD xs (some (i : Int)) none = xs.drop i := by
  unfold cutD
  rw [HT.sIx_nat]
  show (xs.drop (min i xs.length)).take (xs.length - min i xs.length) = _
  by_cases h : i ≤ xs.length
  · rw [Nat.min_eq_left h, List.take_of_length_le (by simp)]
  · rw [Nat.min_eq_right (by omega), List.drop_length, List.drop_of_length_le (by omega)]; simp
theorem cut_mid (xs : List D) {i j : Nat} (h1 : i ≤ j) (h2 : j ≤ xs.length) : cutD xs (some (i : Int)) (some (j : Int)) = (xs.drop i).take (j - i) := by
  unfold cutD
  rw [HT.sIx_nat, HT.sIx_nat, Nat.min_eq_left h2, Nat.min_eq_left (show i ≤ xs.length by omega)]
theorem ChAt.gr {h h' : DH} {d : D} {cs : List Chan} (e : ChAt h d cs) (g : GR h h') : ChAt h' d cs := e.imp (fun e => e) fun ⟨t, e1, e2⟩ => ⟨t, e1, g.at e2⟩
theorem strs_pln (l : List Str) : plns (l.map D.str) = true := plns_map fun y _ => pln_str y
theorem pln_int (i : Int) : pln (.int i) = true := by unfold pln; rfl
theorem sl_to {pl : List Rel} {i : Nat} {h : DH} {k : K1} (q : k (.tup ((pl.take i).map relD)) h) : wSl (planD pl) none (some (i : Int)) h k := by
  show k (.tup (cutD (pl.map relD) none (some (i : Int)))) h
  rw [cut_toN, ← List.map_take]; exact q
theorem sl_from {pl : List Rel} {i : Nat} {h : DH} {k : K1} (q : k (.tup ((pl.drop i).map relD)) h) : wSl (planD pl) (some (i : Int)) none h k := by
  show k (.tup (cutD (pl.map relD) (some (i : Int)) none)) h
  rw [cut_fromN, ← List.map_drop]; exact q
theorem sl_mid {pl : List Rel} {i j : Nat} {h : DH} {k : K1} (h1 : i ≤ j) (h2 : j ≤ pl.length) (q : k (.tup (((pl.drop i).take (j - i)).map relD)) h) : wSl (planD pl) (some (i : Int)) (some (j : Int)) h k := by
  show k (.tup (cutD (pl.map relD) (some (i : Int)) (some (j : Int)))) h
  rw [cut_mid _ h1 (by rw [List.length_map]; exact h2), ← List.map_drop, ← List.map_take]; exact q
theorem dints_nat (i : Nat) : ∀ n : Nat, dints (i : Int) n = (List.range' i n).map fun t => D.int (t : Nat) := by
  intro n
  unfold dints
  rw [List.range'_eq_map_range, List.map_map]
  refine List.map_congr_left fun t _ => ?_
  show D.int _ = D.int _
  congr 1
end Vf

namespace Vf
open PySem PySem.Spec PyProof.Rows L2
/-! ### safe exactly if the order pairs are kept; backwards -/
theorem kpt_of_none {svc : List Str} {cs : List Chan} (ho : OkSys svc cs) : ∀ {rs : List Rel} {n : Nat} {p : List Stp}, (∀ s ∈ p, s ∈ allS cs) → (∀ r ∈ rs, ∀ s ∈ r.2, s ∈ allS cs) → KptL cs p → faultL cs n p rs = none → KptFrom cs p rs
  | [], _, _, _, _, _, _ => trivial
  | r :: rs, n, p, hp, hr, kp, hf => by
    have hq := hr r List.mem_cons_self
    cases e : (refdL cs p (p ++ r.2)).head? with
    | some y => rw [faultL_hit e] at hf; exact nomatch hf
    | none =>
      rw [faultL_go e] at hf
      have hz : refdL cs p (p ++ r.2) = [] := List.head?_eq_none_iff.mp e
      have hb : brkL cs p r.2 = [] := by
        rw [List.eq_nil_iff_forall_not_mem]
        intro x hx
        have := (brk_refdL ho hp hq kp x).mp hx
        rw [hz] at this; exact nomatch this
      refine ⟨fun pr hpr h2 => ?_, kpt_of_none ho (fun s hs => ?_) (fun x hx => hr x (List.mem_cons_of_mem _ hx)) (kpt_after kp hb) hf⟩
      · by_cases h1 : pr.1 ∈ p
        · exact h1
        · obtain ⟨c, hc, hc2⟩ := prsL_mem.mp hpr
          have : c.nm ∈ brkL cs p r.2 := brkL_mem.mpr ⟨c, hc, ⟨pr, hc2, h2, h1⟩, rfl⟩
          rw [hb] at this; exact nomatch this
      · rcases List.mem_append.mp hs with hs | hs
        · exact hp s hs
        · exact hq s hs
theorem OkPl.safe_iff {svc : List Str} {cs : List Chan} (ho : OkSys svc cs) {pl : List Rel} (h : OkPl cs pl) : faultL cs 0 [] pl = none ↔ KptFrom cs [] pl :=
  ⟨fun e => kpt_of_none ho (fun s hs => (nomatch hs)) h.sub (kptL_nil cs) e, h.safe ho⟩
theorem kptFrom_split {cs : List Chan} : ∀ {pl : List Rel} {p : List Stp}, (∀ pre r post, pl = pre ++ r :: post → ∀ pr ∈ prsL cs, pr.2 ∈ r.2 → pr.1 ∈ p ++ pre.flatMap Prod.snd) → KptFrom cs p pl
  | [], _, _ => trivial
  | r :: rs, p, h => ⟨fun pr hpr h2 => by simpa using h [] r rs rfl pr hpr h2, kptFrom_split fun pre x post e pr hpr h2 => by
      have := h (r :: pre) x post (by rw [e]; rfl) pr hpr h2
      simpa using this⟩
theorem kptFrom_at {cs : List Chan} {pl pre post : List Rel} {r : Rel} (k : KptFrom cs [] pl) (e : pl = pre ++ r :: post) {pr : Prs} (hpr : pr ∈ prsL cs) (h2 : pr.2 ∈ r.2) : pr.1 ∈ pre.flatMap Prod.snd := by
  rw [e, kptFrom_app, List.nil_append] at k
  exact k.2.1 pr hpr h2
/-- the order pairs of the exchanged system -/
theorem ex_prs1 (c : Chan) {pr : Prs} (h : pr ∈ c.prs) : (bwS pr.2, bwS pr.1) ∈ c.ex.prs := by
  obtain ⟨b1, b2, b3, b4⟩ := prs_kind c
  obtain ⟨x1, x2, x3, x4⟩ := prs_kind c.ex
  obtain ⟨v1, v2, v3, v4⟩ := kind_vals c
  have e1 : c.ex.ona = c.nao := rfl
  have e2 : c.ex.nao = c.ona := rfl
  have s1 : bwW wSwitch = wSwitch := by decide +kernel
  have s2 : bwW wRead = wRead := by decide +kernel
  have s3 : bwW wWiden = wNarrow := by decide +kernel
  have s4 : bwW wNarrow = wWiden := by decide +kernel
  rcases c.kind4 with e | e | e | e
  · rw [b1 e] at h; exact nomatch h
  · have k : c.ex.kind = kWriter := by
      unfold Chan.kind
      rw [e1, e2, (v2 e).1, (v2 e).2]; decide +kernel
    rw [b2 e] at h
    rw [List.mem_singleton.mp h, x3 k]
    unfold bwS
    rw [s1, s2]; exact List.mem_singleton.mpr rfl
  · have k : c.ex.kind = kReader := by
      unfold Chan.kind
      rw [e1, e2, (v3 e).1, (v3 e).2]; decide +kernel
    rw [b3 e] at h
    rw [List.mem_singleton.mp h, x2 k]
    unfold bwS
    rw [s1, s2]; exact List.mem_singleton.mpr rfl
  · have k : c.ex.kind = kSplit := (ex_split c).mpr e
    rw [b4 e] at h
    rw [x4 k]
    rcases List.mem_cons.mp h with rfl | h
    · unfold bwS
      rw [s1, s3]; exact List.mem_cons_of_mem _ (List.mem_singleton.mpr rfl)
    · rw [List.mem_singleton.mp h]
      unfold bwS
      rw [s1, s4]; exact List.mem_cons_self
theorem ex_prs {cs : List Chan} {pr : Prs} (h : pr ∈ prsL (cs.map Chan.ex)) : ∃ a b, (a, b) ∈ prsL cs ∧ pr.1 = bwS b ∧ pr.2 = bwS a := by
  obtain ⟨c, hc, hpr⟩ := prsL_mem.mp h
  obtain ⟨d, hd, rfl⟩ := List.mem_map.mp hc
  have := ex_prs1 d.ex hpr
  rw [ex_ex] at this
  exact ⟨bwS pr.2, bwS pr.1, prsL_mem.mpr ⟨d, hd, this⟩, (bwS_inv _).symm, (bwS_inv _).symm⟩
theorem flat_in {pl : List Rel} {s : Stp} (h : s ∈ pl.flatMap Prod.snd) : ∃ pre r post, pl = pre ++ r :: post ∧ s ∈ r.2 := by
  obtain ⟨r, hr, hs⟩ := List.mem_flatMap.mp h
  obtain ⟨pre, post, e⟩ := List.append_of_mem hr
  exact ⟨pre, r, post, e, hs⟩
theorem bwP_flat {l : List Rel} {s : Stp} : s ∈ (bwP l).flatMap Prod.snd ↔ ∃ t ∈ l.flatMap Prod.snd, s = bwS t := by
  unfold bwP
  rw [List.mem_flatMap]
  constructor
  · rintro ⟨r, hr, hs⟩
    obtain ⟨x, hx, rfl⟩ := List.mem_map.mp hr
    obtain ⟨t, ht, rfl⟩ := bwL_mem.mp hs
    exact ⟨t, List.mem_flatMap.mpr ⟨x, List.mem_reverse.mp hx, ht⟩, rfl⟩
  · rintro ⟨t, ht, rfl⟩
    obtain ⟨x, hx, ht⟩ := List.mem_flatMap.mp ht
    exact ⟨bwR x, List.mem_map.mpr ⟨x, List.mem_reverse.mpr hx, rfl⟩, bwL_mem.mpr ⟨t, ht, rfl⟩⟩
/-- a is done in this release: b of a pair (a, b) is done later -/
theorem kpt_later {svc : List Str} {cs : List Chan} (ho : OkSys svc cs) {pl pre post : List Rel} {r : Rel} (hp : OkPl cs pl) (k : KptFrom cs [] pl) (e : pl = pre ++ r :: post) {a b : Stp} (hpr : (a, b) ∈ prsL cs) (ha : a ∈ r.2) : b ∈ post.flatMap Prod.snd := by
  have nd := hp.perm.nodup_iff.mpr ho.allS_asc.nodup
  have hb : b ∈ pl.flatMap Prod.snd := hp.perm.mem_iff.mpr (prs_mem ((sortP_perm _).mem_iff.mpr hpr)).2
  rw [e, List.flatMap_append, List.flatMap_cons] at nd hb
  have nd1 := List.nodup_append.mp nd
  rcases List.mem_append.mp hb with hb | hb
  · obtain ⟨p1, rb, p2, e2, hb⟩ := flat_in hb
    have h1 := kptFrom_at k (pre := p1) (r := rb) (post := p2 ++ r :: post) (by rw [e, e2]; simp) hpr hb
    exact absurd rfl (nd1.2.2 a (by rw [e2, List.flatMap_append]; exact List.mem_append_left _ h1) a (List.mem_append_left _ ha))
  · rcases List.mem_append.mp hb with hb | hb
    · have h1 := kptFrom_at k e hpr hb
      exact absurd rfl (nd1.2.2 a h1 a (List.mem_append_left _ ha))
    · exact hb
theorem kpt_bw {svc : List Str} {cs : List Chan} (ho : OkSys svc cs) {pl : List Rel} (hp : OkPl cs pl) (k : KptFrom cs [] pl) : KptFrom (cs.map Chan.ex) [] (bwP pl) := by
  refine kptFrom_split fun pre' r' post' e pr hpr h2 => ?_
  rw [List.nil_append]
  obtain ⟨a, b, hab, e1, e2⟩ := ex_prs hpr
  -- the place in the plan itself
  obtain ⟨pre, r, post, e3, e4, e5⟩ : ∃ pre r post, pl = pre ++ r :: post ∧ r' = bwR r ∧ pre' = bwP post := by
    unfold bwP at e
    obtain ⟨l1, l2, h1, h2, h3⟩ := List.map_eq_append_iff.mp e
    obtain ⟨r, l3, h4, h5, h6⟩ := List.map_eq_cons_iff.mp h3
    refine ⟨l3.reverse, r, l1.reverse, ?_, h5.symm, ?_⟩
    · have := congrArg List.reverse h1
      rw [List.reverse_reverse, h4] at this
      rw [this]; simp
    · unfold bwP
      rw [List.reverse_reverse, h2]
  rw [e4, e2] at h2
  have ha : a ∈ r.2 := by
    obtain ⟨t, ht, e⟩ := bwL_mem.mp h2
    exact bwS_inj e ▸ ht
  rw [e5, e1]
  exact bwP_flat.mpr ⟨b, kpt_later ho hp k e3 hab ha, rfl⟩
theorem safe_bw {svc : List Str} {cs : List Chan} (ho : OkSys svc cs) {pl : List Rel} (hp : OkPl cs pl) : (faultL (cs.map Chan.ex) 0 [] (bwP pl)).isNone = (faultL cs 0 [] pl).isNone := by
  have h1 := hp.safe_iff ho
  have hb := hp.bw ho
  have h2 := hb.safe_iff ho.ex
  rw [Bool.eq_iff_iff, Option.isNone_iff_eq_none, Option.isNone_iff_eq_none, h1, h2]
  constructor
  · intro k
    have := kpt_bw ho.ex hb k
    rwa [exs_ex, bwP_inv hp.rel] at this
  · exact kpt_bw ho hp
theorem refdL_kept {svc : List Str} {cs : List Chan} (ho : OkSys svc cs) {p q : List Stp} (hp : ∀ s ∈ p, s ∈ allS cs) (hq : ∀ s ∈ q, s ∈ allS cs) (kp : KptL cs p) (hb : ∀ pr ∈ prsL cs, pr.2 ∈ q → pr.1 ∈ p) : refdL cs p (p ++ q) = [] := by
  rw [List.eq_nil_iff_forall_not_mem]
  intro x hx
  obtain ⟨c, hc, ⟨pr, hpr, h1, h2⟩, _⟩ := brkL_mem.mp ((brk_refdL ho hp hq kp x).mpr hx)
  exact h2 (hb pr (prsL_mem.mpr ⟨c, hc, hpr⟩) h1)
theorem refdL_now {svc : List Str} {cs : List Chan} (ho : OkSys svc cs) {p : List Stp} (hp : ∀ s ∈ p, s ∈ allS cs) (kp : KptL cs p) : refdL cs p p = [] := by
  have := refdL_kept ho hp (q := []) (fun s hs => (nomatch hs)) kp (fun pr _ h => (nomatch h))
  rwa [List.append_nil] at this
theorem kptL_pre {cs : List Chan} {pl pre post : List Rel} (k : KptFrom cs [] pl) (e : pl = pre ++ post) : KptL cs (pre.flatMap Prod.snd) := by
  intro pr hpr h2
  obtain ⟨p1, r, p2, e2, h2⟩ := flat_in h2
  have := kptFrom_at k (pre := p1) (r := r) (post := p2 ++ post) (by rw [e, e2]; simp) hpr h2
  rw [e2, List.flatMap_append]
  exact List.mem_append_left _ this
theorem kptL_cong {cs : List Chan} {p q : List Stp} (h : ∀ s, s ∈ p ↔ s ∈ q) (k : KptL cs p) : KptL cs q := fun pr hpr h2 => (h _).mp (k pr hpr ((h _).mpr h2))
end Vf

namespace Vf
open PySem PySem.Spec PyProof.Rows L2
/-! ### sets of tuples, their items whole numbers or texts: the table. The library has it for tuples of whole numbers; its lemmas over tables serve here as they stand. -/
section
variable {P : Program} {w : World} {A : Around} {E : Value → Shared → Prop} {s : Shared}
abbrev hK (P : Program) (w : World) (k : TKey) : Int := tupleKeyHash (mixKind P w) k
abbrev isK (P : Program) (w : World) (h : Heap) (k : TKey) (b : Addr) : Prop := IsTupleKey (mixKind P w) h k b
theorem item_calm {k : Key} {v : Value} (h : (mixKind P w).is k v = true) : (∀ n, ofAClassStatement n v = pure false) ∧ ∃ b, ∀ n, hashByValue n v = pure b := by
  rcases keyIs_shape h with ⟨i, t, rfl, rfl⟩ | ⟨x, t, rfl, rfl⟩
  · exact ⟨fun n => by cases n <;> rfl, true, fun n => by cases n <;> rfl⟩
  · exact ⟨fun n => by cases n <;> rfl, false, fun n => by cases n <;> rfl⟩
theorem items_calm {ks : TKey} {vs : List Value} (h : ItemsAre (mixKind P w) ks vs) : ∀ v ∈ vs, (∀ n, ofAClassStatement n v = pure false) ∧ ∃ b, ∀ n, hashByValue n v = pure b := by
  induction h with
  | nil => exact fun v hv => nomatch hv
  | cons h1 _ ih => exact fun v hv => (List.mem_cons.mp hv).elim (fun e => e ▸ item_calm h1) (ih v)
/-- asked of such a tuple: of a class statement? -/
theorem calm_class {k : TKey} {b : Addr} {Q : Bool → Shared → Prop} (hk : isK P w s.heap k b) (q : Q false s) : wpAny (model P w) A (ofAClassStatement 8 (.ref b)) Q E s := by
  have ty := hk.typeIs
  obtain ⟨ob, its, m, hob, _, hdt, hits⟩ := hk
  unfold ofAClassStatement
  refine wpAny_bind (wpAny_typeOf ty ?_)
  have e : (("tuple" : String) == "tuple") = true := by decide
  dsimp only
  simp only [e, if_true, Bool.not_true, Bool.false_eq_true, if_false]
  show wpAny _ _ (seqItems? (.ref b) >>= _) _ _ s
  refine wpAny_bind (wpAny_seqItems hob hdt (wpAny_bind ?_))
  show wpAny _ _ (forIn its _ _) _ _ s
  rw [← Array.forIn_toList]
  refine wpAny_forIn_list _ (fun left st s' => st.1 = none ∧ s' = s ∧ ∀ v ∈ left, ∀ n, ofAClassStatement n v = pure false) _ ?_ ?_ _ _ ⟨rfl, rfl, fun v hv => (items_calm hits v hv).1⟩
  · rintro v left st s' ⟨e1, rfl, all⟩
    rw [all v List.mem_cons_self]
    refine wpAny_bind (wpAny_pure ?_)
    simp only [Bool.false_eq_true, if_false]
    exact wpAny_pure ⟨rfl, rfl, fun x hx => all x (List.mem_cons_of_mem _ hx)⟩
  · rintro ⟨c1, c2⟩ s' ⟨e1, rfl, _⟩
    cases e1
    exact wpAny_pure q
theorem calm_hash {k : TKey} {b : Addr} {Q : Bool → Shared → Prop} (hk : isK P w s.heap k b) (q : ∀ c, Q c s) : wpAny (model P w) A (hashByValue 8 (.ref b)) Q E s := by
  have ty := hk.typeIs
  obtain ⟨ob, its, m, hob, _, hdt, hits⟩ := hk
  unfold hashByValue
  refine wpAny_bind (wpAny_specialOf ty F.slot_tuple_hash.lookup ?_)
  show wpAny _ _ (seqItems? (.ref b) >>= _) _ _ s
  refine wpAny_bind (wpAny_seqItems hob hdt (wpAny_bind ?_))
  show wpAny _ _ (forIn its _ _) _ _ s
  rw [← Array.forIn_toList]
  refine wpAny_forIn_list _ (fun left st s' => st.1 = none ∧ s' = s ∧ ∀ v ∈ left, ∃ b, ∀ n, hashByValue n v = pure b) _ ?_ ?_ _ _ ⟨rfl, rfl, fun v hv => (items_calm hits v hv).2⟩
  · rintro v left st s' ⟨e1, rfl, all⟩
    obtain ⟨c, hc⟩ := all v List.mem_cons_self
    rw [hc]
    refine wpAny_bind (wpAny_pure ?_)
    cases c with
    | true =>
      simp only [Bool.not_true, Bool.false_eq_true, if_false]
      exact wpAny_pure ⟨rfl, rfl, fun x hx => all x (List.mem_cons_of_mem _ hx)⟩
    | false =>
      simp only [Bool.not_false, if_true]
      exact wpAny_pure (wpAny_pure (q false))
  · rintro ⟨c1, c2⟩ s' ⟨e1, rfl, _⟩
    cases e1
    exact wpAny_pure (q true)
/-- a search among such tuples shows nothing -/
theorem calm_seen {k : TKey} {b : Addr} {Q : Bool → Shared → Prop} (hk : isK P w s.heap k b) {ys : List Value} (hy : ∀ y ∈ ys, ∃ k' c, y = Value.ref c ∧ isK P w s.heap k' c) (q : Q false s) : wpAny (model P w) A (searchCouldBeSeen (.ref b) ys) Q E s := by
  unfold searchCouldBeSeen
  refine wpAny_bind (wpAny_forIn_list _ (fun left st s' => st.1 = none ∧ s' = s ∧ ∀ y ∈ left, ∃ k' c, y = Value.ref c ∧ isK P w s.heap k' c) _ ?_ ?_ _ _ ⟨rfl, rfl, hy⟩)
  · rintro v left st s' ⟨e1, rfl, all⟩
    obtain ⟨k', c, rfl, hc⟩ := all v List.mem_cons_self
    have all' : ∀ y ∈ left, ∃ k' c, y = Value.ref c ∧ isK P w s'.heap k' c := fun x hx => all x (List.mem_cons_of_mem _ hx)
    dsimp only
    by_cases same : (b == c || (carriedByValue (.ref b) && carriedByValue (.ref c))) = true
    · exact wp_if_pos same (wpAny_pure ⟨rfl, rfl, all'⟩)
    · refine wp_if_neg same (wpAny_bind (wpAny_eqIsQuiet_tuple hk ?_))
      simp only [Bool.not_true, Bool.false_eq_true, if_false]
      refine wpAny_bind (wpAny_eqIsQuiet_tuple hc ?_)
      simp only [Bool.not_true, Bool.false_eq_true, if_false]
      refine wpAny_bind (calm_class hk ?_)
      simp only [Bool.false_eq_true, if_false]
      refine wpAny_bind (calm_class hc ?_)
      simp only [Bool.false_eq_true, if_false]
      exact wpAny_pure ⟨rfl, rfl, all'⟩
  · rintro ⟨c1, c2⟩ s' ⟨e1, rfl, _⟩
    cases e1
    exact wpAny_pure q
/-- the table at a holds the tuples M, row by row -/
structure TabS (P : Program) (w : World) (h : Heap) (a : Addr) (M : List (Addr × TKey)) (es : Array (Int × Value)) (ep : Nat) (t : SetTable) : Prop where
  obj : ∃ o, h.get? a = some o ∧ o.ExactSet ∧ o.data = .set es ep t
  row : es.toList = M.map fun p => (hK P w p.2, Value.ref p.1)
  tok : TabOk t (M.map fun p => hK P w p.2)
  unq : (M.map Prod.snd).Nodup
  key : ∀ p ∈ M, isK P w h p.2 p.1
  led : w.params.followText "set-order" = true ∨ t.led = true
  rom : M.length * 5 < t.mask * 3
  few : M.length < 64
variable {a : Addr} {M : List (Addr × TKey)} {es : Array (Int × Value)} {ep : Nat} {t : SetTable}
theorem rows_len {M : List (Addr × TKey)} {es : Array (Int × Value)} (h : es.toList = M.map fun p => (hK P w p.2, Value.ref p.1)) : es.size = M.length := by
  rw [← Array.length_toList, h, List.length_map]
theorem TabS.fit (S : TabS P w s.heap a M es ep t) : t.fits es.size = true := by
  have z1 := rows_len S.row
  have z2 := S.tok.sz
  have z3 := S.rom
  rw [List.length_map] at z2
  unfold SetTable.fits SetTable.fill
  rw [S.tok.dm, Bool.and_eq_true, beq_iff_eq, decide_eq_true_eq]
  exact ⟨by omega, by show t.place.size + 0 ≤ t.mask; omega⟩
theorem TabS.ent (S : TabS P w s.heap a M es ep t) {i : Nat} {p : Addr × TKey} (h : M[i]? = some p) : es[i]? = some (hK P w p.2, Value.ref p.1) := by
  rw [← Array.getElem?_toList, S.row, List.getElem?_map, h]; rfl
theorem TabS.way0 (S : TabS P w s.heap a M es ep t) : t.gaveWay ≠ true := by
  unfold SetTable.gaveWay
  rw [mask_odd S.tok.mok]; decide
abbrev stp (t : SetTable) (g : Int) (c : Nat) : SetTable.Probe := nth t.mask (runAt t.mask (SetTable.bits g % (t.mask + 1)) (SetTable.bits g)) c
theorem stp_add (t : SetTable) (g : Int) (c n : Nat) : nth t.mask (stp t g c) n = stp t g (c + n) := (nth_add t.mask c _ n).symm
theorem stp_plain (t : SetTable) (g : Int) (c : Nat) : (stp t g c).dummy = none := by
  have : ∀ (n : Nat) (p : SetTable.Probe), p.dummy = none → (nth t.mask p n).dummy = none := by
    intro n
    induction n with
    | zero => exact fun p h => h
    | succ n ih =>
      intro p h
      refine ih _ ?_
      unfold adv
      split <;> exact h
  exact this c _ rfl
theorem same_mem (t : SetTable) : t.sameMemory t.moves t.mask = some true := by
  unfold SetTable.sameMemory
  rw [if_pos (beq_self_eq_true _)]
/-- the way of a key through the table, from its c-th place on: K is the first empty one -/
theorem TabS.seek (S : TabS P w s.heap a M es ep t) {x : Addr} {k : TKey} (hx : isK P w s.heap k x) (hu : A.units < cLine) {K : Nat} (kf : K < 10 * SetTable.turns t.mask) (ke : way t.mask (hK P w k) K ∉ t.place.toList) (kb : ∀ c, c < K → way t.mask (hK P w k) c ∈ t.place.toList) {Q : SetFound → Shared → Prop}
    (yes : k ∈ M.map Prod.snd → Q (.there none) s) (no : k ∉ M.map Prod.snd → Q (.free (way t.mask (hK P w k) K) false) s) :
    ∀ (f c : Nat) (st : Option SetTable.Probe), st.getD (t.probeStart (hK P w k)) = stp t (hK P w k) c → c ≤ K → K - c < f →
      (∀ (i : Nat) p, M[i]? = some p → p.2 = k → ∃ c', c ≤ c' ∧ c' < K ∧ t.place.toList[i]? = some (way t.mask (hK P w k) c')) →
      wpAny (model P w) A (setSearchFrom a (.ref x) (hK P w k) true f st) Q E s := by
  intro f
  induction f with
  | zero => intro c st _ _ hf; exact absurd hf (Nat.not_lt_zero _)
  | succ f ih =>
  intro c st hst hc hf rest
  obtain ⟨ob, hob, hex, hdt⟩ := S.obj
  have place : ∀ n, (nth t.mask (stp t (hK P w k) c) n).j = way t.mask (hK P w k) (c + n) := fun n => congrArg SetTable.Probe.j (stp_add t _ c n)
  have hash : ∀ (i : Nat) p, M[i]? = some p → (es[i]?.map (·.1)).getD 0 = hK P w p.2 := fun i p hp => by rw [S.ent hp]; rfl
  have met := go_spec t S.tok.ris S.tok.dm (fun i => (es[i]?.map (·.1)).getD 0) (hK P w k) (10 * SetTable.turns t.mask) (K - c) (stp t (hK P w k) c) (stp_plain t _ c) (by omega)
    (fun n hn => by rw [place]; exact kb _ (by omega)) (by rw [place, Nat.add_sub_cancel' hc]; exact ke)
  rw [setSearchFrom_succ]
  refine wpAny_bind (wpAny_setState_of hob hdt S.fit ?_)
  dsimp only
  refine wp_if_neg S.way0 ?_
  rcases met with ⟨n, i, hn, at_, hh, none_, pr⟩ | ⟨none_, pr⟩
  · have pr' : t.probe (fun i => (es[i]?.map (·.1)).getD 0) (hK P w k) (st.getD (t.probeStart (hK P w k))) = some (.candidate (way t.mask (hK P w k) (c + n)) i (stp t (hK P w k) (c + (n + 1)))) := by
      rw [hst, ← place, ← stp_add]; exact pr
    rw [pr']
    dsimp only
    rw [place] at at_
    have il : i < M.length := by
      have z1 := (List.getElem?_eq_some_iff.mp at_).1
      have z2 := S.tok.sz
      rw [List.length_map] at z2
      rw [Array.length_toList] at z1
      omega
    obtain ⟨p, hp⟩ : ∃ p, M[i]? = some p := ⟨_, List.getElem?_eq_getElem il⟩
    have pm := List.mem_of_getElem? hp
    have live : t.slot (way t.mask (hK P w k) (c + n)) = .live i := slot_live S.tok.ris at_
    have on : wpAny (model P w) A (searchRest a (.ref x) (hK P w k) true f es t (way t.mask (hK P w k) (c + n)) i (stp t (hK P w k) (c + (n + 1)))) Q E s := by
      unfold searchRest
      rw [S.ent hp]
      dsimp only
      refine wpAny_bind (wpAny_holding (wpAny_eqBool_tuple hu (S.key p pm) hx (wpAny_bind (wpAny_setState_of hob hdt S.fit ?_))))
      dsimp only
      by_cases ek : p.2 = k
      · exact wp_if_pos (by simp [ek]) (wpAny_pure (yes (List.mem_map.mpr ⟨p, pm, ek⟩)))
      · refine wp_if_neg (by simp [ek]) ?_
        rw [same_mem]
        dsimp only
        simp only [if_true, live, S.ent hp]
        refine wpAny_bind (wpAny_isSame_ref_self (wpAny_bind (wpAny_pure ?_)))
        simp only [if_true]
        refine wp_if_neg (by simp [ek]) (ih (c + (n + 1)) _ rfl (by omega) (by omega) fun i0 p0 h0 e0 => ?_)
        obtain ⟨c', l1, l2, l3⟩ := rest i0 p0 h0 e0
        refine ⟨c', ?_, l2, l3⟩
        have n1 : ¬ c' < c + n := fun z => none_ (c' - c) i0 (by omega) (by rw [place, Nat.add_sub_cancel' l1]; exact l3) ((hash i0 p0 h0).trans (by rw [e0]))
        have n2 : c' ≠ c + n := fun z => by
          rw [z] at l3
          have sl := slot_live S.tok.ris l3
          rw [live] at sl
          injection sl with sl
          rw [← sl, hp] at h0
          exact ek ((congrArg Prod.snd (Option.some.inj h0)).trans e0)
        omega
    by_cases hl : t.led = true
    · exact wp_if_neg (by simp [hl]) on
    · refine wp_if_pos (by simp [hl]) (wpAny_bind (calm_seen hx (fun y hy => ?_) (wp_if_neg (by decide) on)))
      obtain ⟨e, he, rfl⟩ := List.mem_map.mp hy
      have he2 : e ∈ es.toList := by
        have : e ∈ es ∧ e.1 = hK P w k := by simpa using he
        simpa using this.1
      rw [S.row] at he2
      obtain ⟨p2, hp2, rfl⟩ := List.mem_map.mp he2
      exact ⟨p2.2, p2.1, rfl, S.key p2 hp2⟩
  · have pr' : t.probe (fun i => (es[i]?.map (·.1)).getD 0) (hK P w k) (st.getD (t.probeStart (hK P w k))) = some (.empty (way t.mask (hK P w k) K) none) := by
      have e2 : way t.mask (hK P w k) K = (nth t.mask (stp t (hK P w k) c) (K - c)).j := by rw [place, Nat.add_sub_cancel' hc]
      rw [hst, e2]; exact pr
    rw [pr']
    dsimp only
    refine wpAny_pure (no fun hm => ?_)
    obtain ⟨p0, h0, e0⟩ := List.mem_map.mp hm
    obtain ⟨i0, hi0⟩ := List.mem_iff_getElem?.mp h0
    obtain ⟨c', l1, l2, l3⟩ := rest i0 p0 hi0 e0
    exact none_ (c' - c) i0 (by omega) (by rw [place, Nat.add_sub_cancel' l1]; exact l3) ((hash i0 p0 hi0).trans (by rw [e0]))
theorem TabS.find (S : TabS P w s.heap a M es ep t) {x : Addr} {k : TKey} (hx : isK P w s.heap k x) (hu : A.units < cLine) {Q : SetFound → Shared → Prop} (yes : k ∈ M.map Prod.snd → Q (.there none) s)
    (no : ∀ K, k ∉ M.map Prod.snd → way t.mask (hK P w k) K ∉ t.place.toList → (∀ c, c < K → way t.mask (hK P w k) c ∈ t.place.toList) → Q (.free (way t.mask (hK P w k) K) false) s) : wpAny (model P w) A (setSearch a (.ref x) (hK P w k) true) Q E s := by
  have rom := S.rom
  obtain ⟨K, kf, ke, kb⟩ := S.tok.first (by rw [List.length_map]; omega) (hK P w k)
  have small : 10 * SetTable.turns t.mask ≤ 1420 := by
    unfold SetTable.turns
    rcases S.tok.mok with e | e | e <;> omega
  unfold setSearch
  refine S.seek hx hu kf ke kb yes (fun n => no K n ke kb) 100000 0 none rfl (Nat.zero_le _) (by omega) fun i p hp e => ?_
  have hi : (M.map fun p => hK P w p.2)[i]? = some (hK P w k) := by rw [List.getElem?_map, hp, ← e]; rfl
  have il : i < t.place.toList.length := by
    have z1 := (List.getElem?_eq_some_iff.mp hp).1
    have z2 := S.tok.sz
    rw [List.length_map] at z2
    rw [Array.length_toList]; omega
  obtain ⟨c, hc, e2⟩ := S.tok.before ke hi (List.getElem?_eq_getElem il)
  exact ⟨c, Nat.zero_le _, hc, by rw [List.getElem?_eq_getElem il, e2]⟩
end
end Vf

namespace Vf
open PySem PySem.Spec PyProof.Rows L2
section
variable {P : Program} {w : World} {A : Around} {E : Value → Shared → Prop} {s : Shared} {a : Addr} {M : List (Addr × TKey)} {es : Array (Int × Value)} {ep : Nat} {t : SetTable}
theorem isK.over {h h' : Heap} {k : TKey} {b : Addr} {o : Obj} (hb : isK P w h k b) (ho : h.get? a = some o) (hd : o.data = .set es ep t) (sm : Heap.SameBut a h h') : isK P w h' k b := by
  obtain ⟨ob, its, m, h1, h2, h3, h4⟩ := hb
  refine ⟨ob, its, m, (sm.2 b fun e => ?_).trans h1, h2, h3, h4⟩
  rw [e, ho] at h1
  cases h1
  rw [hd] at h3; exact nomatch h3
def rowsK (P : Program) (w : World) (M : List (Addr × TKey)) : List (Int × Value) := M.map fun p => (hK P w p.2, Value.ref p.1)
/-- rows in another order -/
theorem rows_order {M : List (Addr × TKey)} {es : Array (Int × Value)} {order : Array Nat} (hr : es.toList = rowsK P w M) (hp : order.toList.Perm (List.range M.length)) :
    ∃ M', (order.filterMap (es[·]?)).toList = rowsK P w M' ∧ M'.Perm M ∧ (M'.map fun p => hK P w p.2) = order.toList.map fun i => (es.map (·.1)).getD i 0 := by
  have at_ : ∀ i, es[i]? = (M[i]?).map fun p : Addr × TKey => (hK P w p.2, Value.ref p.1) := fun i => by
    rw [← Array.getElem?_toList, hr]
    unfold rowsK
    rw [List.getElem?_map]
  have lst : (order.filterMap (es[·]?)).toList = order.toList.filterMap fun i => es[i]? := by simp
  refine ⟨order.toList.filterMap fun i => M[i]?, ?_, ?_, ?_⟩
  · rw [lst]
    unfold rowsK
    rw [List.map_filterMap]
    exact congrArg (fun f => List.filterMap f order.toList) (funext at_)
  · have z : (List.range M.length).filterMap (fun i => M[i]?) = M := by
      have : ∀ n, n ≤ M.length → (List.range n).filterMap (fun i => M[i]?) = M.take n := by
        intro n
        induction n with
        | zero => intro _; rfl
        | succ n ih =>
          intro hn
          rw [List.range_succ, List.filterMap_append, ih (by omega), List.take_add_one]
          simp [List.filterMap_cons, show n < M.length by omega]
      rw [this _ (Nat.le_refl _), List.take_length]
    have := hp.filterMap fun i => M[i]?
    rwa [z] at this
  · have all : ∀ i ∈ order.toList, i < M.length := fun i hi => List.mem_range.mp (hp.mem_iff.mp hi)
    generalize order.toList = l at all
    induction l with
    | nil => rfl
    | cons i l ih =>
      have hi := all i List.mem_cons_self
      rw [List.filterMap_cons, List.getElem?_eq_getElem hi]
      simp only [List.map_cons]
      rw [ih fun j hj => all j (List.mem_cons_of_mem _ hj)]
      congr 1
      have e5 : (es.map (·.1))[i]? = some (hK P w (M[i]).2) := by rw [Array.getElem?_map, at_, List.getElem?_eq_getElem hi]; rfl
      simp [Array.getD_eq_getD_getElem?, e5]
/-- a larger table -/
theorem tab_grow {o : Obj} (ho : s.heap.get? a = some o) (hex : o.ExactSet) (hd : o.data = .set es ep t) (row : es.toList = rowsK P w M) (sz : t.place.size = es.size) (dm : t.dummies = #[]) (fl : es.size ≤ t.mask)
    (unq : (M.map Prod.snd).Nodup) (key : ∀ p ∈ M, isK P w s.heap p.2 p.1) (led : w.params.followText "set-order" = true ∨ t.led = true) (few : M.length < 64) {n m : Nat} (hn : SetTable.sizeAbove n - 1 = m) (hm : MaskOk m) (h128 : SetTable.sizeAbove n ≤ 128) (rom : M.length * 5 < m * 3) {Q : Unit → Shared → Prop}
    (q : ∀ h' M' es' ep' t', Heap.SameBut a s.heap h' → TabS P w h' a M' es' ep' t' → M'.Perm M → Q () { s with heap := h' }) : wpAny (model P w) A (setRelay a n) Q E s := by
  have ez : es.size = M.length := rows_len row
  have fit : t.fits es.size = true := by
    unfold SetTable.fits SetTable.fill
    rw [dm, Bool.and_eq_true, beq_iff_eq, decide_eq_true_eq]
    exact ⟨sz, by show t.place.size + 0 ≤ t.mask; omega⟩
  obtain ⟨t', order, e, pm, tok, em, el, _, _⟩ := relaid_ok t (hs := es.map (·.1)) (wanted := n) hn hm (by rw [Array.size_map, ez]; omega)
  rw [Array.size_map, ez] at pm
  obtain ⟨M', r1, r2, r3⟩ := rows_order row pm
  rw [← r3] at tok
  have z2 : (order.filterMap (es[·]?)).size = es.size := by rw [rows_len r1, r2.length_eq, ez]
  rw [setRelay_eq]
  refine wpAny_bind (wpAny_setState_of ho hd fit ?_)
  dsimp only
  refine wp_if_neg (by rw [sizeLine_eq]; omega) ?_
  rw [e]
  refine wpAny_bind (wp_if_neg (by rw [z2]; simp) (wpAny_pure ?_))
  dsimp only
  refine wpAny_storeSet_of ho hd ?_ (by rw [z2, ez, sizeLine_eq]; omega)
  have sm : Heap.SameBut a s.heap (s.heap.update a (Obj.putSet (order.filterMap (es[·]?)) t')) := Heap.SameBut.update ..
  exact q _ M' _ (ep + 1) t' sm ⟨⟨_, store_at ho hd, ⟨hex.1, hex.2.1, hex.2.2⟩, rfl⟩, r1, tok, (r2.map Prod.snd).nodup_iff.mpr unq, fun p hp => (key p (r2.mem_iff.mp hp)).over ho hd sm, by rw [el]; exact led, by rw [r2.length_eq, em]; exact rom, by rw [r2.length_eq]; exact few⟩ r2
theorem put_mid {α : Type} (l : List α) (i : Nat) (x : α) : (l.take i ++ x :: l.drop i).Perm (x :: l) := by
  have h : (l.take i ++ x :: l.drop i).Perm (x :: (l.take i ++ l.drop i)) := List.perm_middle
  rwa [List.take_append_drop] at h
/-- a tuple is added -/
theorem TabS.add (S : TabS P w s.heap a M es ep t) {x : Addr} {k : TKey} (hx : isK P w s.heap k x) (hu : A.units < cLine) (hf : M.length + 1 < 64) {Q : Bool → Shared → Prop}
    (q : ∀ b h' M' es' ep' t', Heap.SameBut a s.heap h' → TabS P w h' a M' es' ep' t' → (k ∈ M.map Prod.snd → M' = M) → (k ∉ M.map Prod.snd → M'.Perm ((x, k) :: M)) → Q b { s with heap := h' }) :
    wpAny (model P w) A (setAddHashed a (.ref x) (hK P w k)) Q E s := by
  obtain ⟨ob, hob, hex, hdt⟩ := S.obj
  have ez : es.size = M.length := rows_len S.row
  have rom := S.rom
  unfold setAddHashed
  refine wpAny_holding ?_
  rw [show (100000 : Nat) = 99999 + 1 from rfl, setAddHashedIn_succ]
  refine wpAny_bind (wpAny_setState_of hob hdt S.fit ?_)
  dsimp only
  refine wp_if_neg (by simp [byScan, Value.scannable]) ?_
  refine wpAny_bind (S.find hx hu (fun hm => ?_) fun K hm ke kb => ?_)
  · exact wpAny_pure (q false s.heap M es ep t (Heap.SameBut.refl a s.heap) S (fun _ => rfl) fun z => absurd hm z)
  dsimp only
  refine wpAny_bind (wpAny_setState_of hob hdt S.fit ?_)
  dsimp only
  obtain ⟨p1, p2, p3, p4, p5, _, _, _, p9⟩ := S.tok.put ke kb
  generalize hpt : t.put (way t.mask (hK P w k) K) = pt at p1 p3 p4 p5 p9 ⊢
  obtain ⟨t0, i⟩ := pt
  dsimp only at p1 p3 p4 p5 p9 ⊢
  subst p1
  generalize SetTable.below t.place (way t.mask (hK P w k) K) = i at p2 p3 ⊢
  -- whatever the answer, only the mark of the table changes
  have both : ∀ c : Bool, TabOk (if c = true then t0 else { t0 with plain := false }) ((M.map fun p => hK P w p.2).take i ++ hK P w k :: (M.map fun p => hK P w p.2).drop i) ∧ (if c = true then t0 else { t0 with plain := false }).mask = t.mask ∧ (if c = true then t0 else { t0 with plain := false }).led = t.led ∧ (if c = true then t0 else { t0 with plain := false }).fill = M.length + 1 := fun c => by
    rw [List.length_map] at p9
    cases c
    · exact ⟨⟨p3.ris, p3.dm, p3.sz, p3.mok, p3.bd, p3.reach⟩, p4, p5, p9⟩
    · exact ⟨p3, p4, p5, p9⟩
  have go : ∀ c : Bool, wpAny (model P w) A (do
      storeSet a (SetTable.insertAt es i (hK P w k, .ref x)) (if c = true then t0 else { t0 with plain := false })
      if !false && (if c = true then t0 else { t0 with plain := false }).tooFull then setRelay a (SetTable.grown (es.size + 1))
      return true) Q E s := fun c => by
    obtain ⟨q3, q4, q5, q9⟩ := both c
    generalize (if c = true then t0 else { t0 with plain := false }) = t1 at q3 q4 q5 q9 ⊢
    have inrow : (SetTable.insertAt es i (hK P w k, Value.ref x)).toList = rowsK P w (M.take i ++ (x, k) :: M.drop i) := by
      rw [SetTable.toList_insertAt, S.row]
      unfold rowsK
      rw [List.map_append, List.map_cons, List.map_take, List.map_drop]
    have pm := put_mid M i (x, k)
    have hh : (M.take i ++ (x, k) :: M.drop i).map (fun p => hK P w p.2) = (M.map fun p => hK P w p.2).take i ++ hK P w k :: (M.map fun p => hK P w p.2).drop i := by
      rw [List.map_append, List.map_cons, List.map_take, List.map_drop]
    rw [← hh] at q3
    have unq : ((M.take i ++ (x, k) :: M.drop i).map Prod.snd).Nodup := (pm.map Prod.snd).nodup_iff.mpr (List.nodup_cons.mpr ⟨hm, S.unq⟩)
    generalize M.take i ++ (x, k) :: M.drop i = M1 at pm q3 unq inrow
    generalize SetTable.insertAt es i (hK P w k, Value.ref x) = es1 at inrow ⊢
    have l1 : M1.length = M.length + 1 := pm.length_eq
    have z1 : es1.size = M.length + 1 := by rw [rows_len inrow, l1]
    refine wpAny_bind (wpAny_storeSet_of hob hdt ?_ (by rw [z1, sizeLine_eq]; omega))
    have sm : Heap.SameBut a s.heap (s.heap.update a (Obj.putSet es1 t1)) := Heap.SameBut.update ..
    have hob1 := store_at (es' := es1) (t' := t1) hob hdt
    generalize s.heap.update a (Obj.putSet es1 t1) = h1 at sm hob1 ⊢
    have key1 : ∀ p ∈ M1, isK P w h1 p.2 p.1 := fun p hp => by
      rcases List.mem_cons.mp (pm.mem_iff.mp hp) with e | hp
      · rw [e]; exact isK.over hx hob hdt sm
      · exact isK.over (S.key p hp) hob hdt sm
    have led1 : w.params.followText "set-order" = true ∨ t1.led = true := by rw [q5]; exact S.led
    by_cases full : t1.tooFull = true
    · have five : (M.length + 1) * 5 ≥ t1.mask * 3 := by
        have z := full
        unfold SetTable.tooFull at z
        rw [decide_eq_true_eq, q9] at z
        exact z
      have sz1 : t1.place.size = es1.size := by
        have z := q3.sz
        rw [List.length_map] at z
        omega
      have two : (t.mask = 7 ∧ M.length = 4) ∨ (t.mask = 31 ∧ M.length = 18) := by
        rw [q4] at five
        rcases S.tok.mok with e | e | e
        · left; rw [e] at five rom; exact ⟨e, by omega⟩
        · right; rw [e] at five rom; exact ⟨e, by omega⟩
        · rw [e] at five; omega
      have grow : ∀ m, SetTable.sizeAbove (SetTable.grown (M.length + 1)) - 1 = m → MaskOk m → SetTable.sizeAbove (SetTable.grown (M.length + 1)) ≤ 128 → (M.length + 1) * 5 < m * 3 →
          wpAny (model P w) A (setRelay a (SetTable.grown (M.length + 1))) (fun _ s' => wpAny (model P w) A (pure true) Q E s') E { s with heap := h1 } := fun m g1 g2 g3 g4 =>
        tab_grow (s := { s with heap := h1 }) hob1 ⟨hex.1, hex.2.1, hex.2.2⟩ rfl inrow sz1 q3.dm (by rw [z1, q4]; omega) unq key1 led1 (by rw [l1]; exact hf) g1 g2 g3 (by rw [l1]; exact g4) fun h2 M2 es2 ep2 t2 sm2 S2 pm2 =>
          wpAny_pure (q true h2 M2 es2 ep2 t2 (sm.trans sm2) S2 (fun z => absurd z hm) fun _ => pm2.trans pm)
      rw [ez]
      refine wp_if_pos (by simp [full]) (wpAny_bind ?_)
      rcases two with ⟨_, e2⟩ | ⟨_, e2⟩
      · exact grow 31 (by rw [e2, size_20]) (.inr (.inl rfl)) (by rw [e2, size_20]; decide) (by omega)
      · exact grow 127 (by rw [e2, size_76]) (.inr (.inr rfl)) (by rw [e2, size_76]; decide) (by omega)
    · refine wp_if_neg (by simp [full]) (wpAny_pure ?_)
      refine q true h1 M1 es1 (ep + 1) t1 sm ⟨⟨_, hob1, ⟨hex.1, hex.2.1, hex.2.2⟩, rfl⟩, inrow, q3, unq, key1, led1, ?_, by rw [l1]; exact hf⟩ (fun z => absurd z hm) fun _ => pm
      have z := full
      unfold SetTable.tooFull at z
      rw [decide_eq_true_eq, q9] at z
      rw [l1]; omega
  by_cases hpl : t0.plain = true
  · exact wp_if_pos hpl (wpAny_bind (calm_hash hx fun c => go c))
  · exact wp_if_neg hpl (wpAny_bind (wpAny_pure (go true)))
theorem tab_new {h : Heap} {a : Addr} (ho : h.get? a = some { cls := .type "set", dict := none, data := .set #[] 0 (.fresh 0 0 (!w.params.followText "set-order")) }) : TabS P w h a [] #[] 0 (.fresh 0 0 (!w.params.followText "set-order")) := by
  refine ⟨⟨_, ho, ⟨rfl, rfl, rfl⟩, rfl⟩, rfl, ⟨?_, rfl, rfl, .inl rfl, fun x hx => ?_, fun i h j hi => ?_⟩, List.nodup_nil, fun p hp => (nomatch hp), ?_, by show 0 * 5 < 7 * 3; decide, by decide⟩
  · first | exact List.Pairwise.nil | trivial | (intro i j; simp [SetTable.fresh]) | skip
  · exact absurd hx (by simp [SetTable.fresh])
  · exact absurd hi (by simp)
  · cases e : w.params.followText "set-order"
    · exact .inr rfl
    · exact .inl rfl
end
end Vf

namespace Vf
open PySem PySem.Spec PyProof.Rows L2
/-! ### the set as a tracked thing -/
def Tab0 (P : Program) (w : World) (h : Heap) (a : Addr) (M : List (Addr × TKey)) : Prop := ∃ (es : Array (Int × Value)) (ep : Nat) (t : SetTable), (∃ o, h.get? a = some o ∧ o.ExactSet ∧ o.data = .set es ep t) ∧ es.toList = rowsK P w M ∧ TabOk t (M.map fun p => hK P w p.2) ∧ (M.map Prod.snd).Nodup ∧
  (w.params.followText "set-order" = true ∨ t.led = true) ∧ M.length * 5 < t.mask * 3 ∧ M.length < 64
def TabO (P : Program) (w : World) (a : Addr) (M : List (Addr × TKey)) : HO := .ext fun h => Tab0 P w h a M
theorem Tab0.ok {P : Program} {w : World} {H : Hp} {h : Heap} {a : Addr} {M : List (Addr × TKey)} (T : Tab0 P w h a M) : ObjOk P w H h a (TabO P w a M) := by
  have ⟨es, ep, t, ⟨o, ho, r⟩, q⟩ := T
  refine ⟨T, ⟨o, ho⟩, fun h1 h2 p k => ?_⟩
  have ⟨es', ep', t', ⟨o', ho', r'⟩, q'⟩ := (show Tab0 P w h1 a M from p)
  exact (show Tab0 P w h2 a M from ⟨es', ep', t', ⟨o', k o' ho', r'⟩, q'⟩)
theorem Tab0.tab {P : Program} {w : World} {h : Heap} {a : Addr} {M : List (Addr × TKey)} (T : Tab0 P w h a M) (hk : ∀ p ∈ M, isK P w h p.2 p.1) : ∃ es ep t, TabS P w h a M es ep t := by
  obtain ⟨es, ep, t, h1, h2, h3, h4, h5, h6, h7⟩ := T
  exact ⟨es, ep, t, h1, h2, h3, h4, hk, h5, h6, h7⟩
theorem TabS.t0 {P : Program} {w : World} {h : Heap} {a : Addr} {M : List (Addr × TKey)} {es : Array (Int × Value)} {ep : Nat} {t : SetTable} (S : TabS P w h a M es ep t) : Tab0 P w h a M := ⟨es, ep, t, S.obj, S.row, S.tok, S.unq, S.led, S.rom, S.few⟩
section
variable {X : Cx}
/-- set.add of a tuple -/
theorem add_tup {pins : List (Addr × Obj)} {σ : L2.St} {H : Hp} {s : Shared} {E : Value → Shared → Prop} {a x : Addr} {M : List (Addr × TKey)} {k : TKey} {Q : Value → Shared → Prop} (I : Inv X pins σ H s) (hu : X.A.units + 2 < cLine) (ha : H a = some (TabO X.prog X.w a M)) (hM : ∀ p ∈ M, SqT X.K H p.1 (p.2.map kV)) (hx : SqT X.K H x (k.map kV)) (hf : M.length + 1 < 64)
    (q : ∀ M' s', (k ∈ M.map Prod.snd → M' = M) → (k ∉ M.map Prod.snd → M'.Perm ((x, k) :: M)) → Inv X pins σ (L2.upd H a (TabO X.prog X.w a M')) s' → Q .none s') : wpAny (model X.prog X.w) X.A (call (.builtin "set.add") [.ref a, .ref x]) Q E s := by
  have T0 : Tab0 X.prog X.w s.heap a M := (I.hok a _ ha).1
  obtain ⟨es, ep, t, S⟩ := T0.tab fun p hp => key_ofS I (hM p hp)
  have kx : isK X.prog X.w s.heap k x := key_ofS I hx
  obtain ⟨o, ho, hex, hd⟩ := S.obj
  have ty : s.TypeIs (.ref a) "set" := ⟨o, ho, hex.1⟩
  refine wpAny_call_entry F.slot_set_add ty F.entry_set_add ?_ (F.args_set_add_2 _ _)
  unfold Builtin.«set.add» Builtin.Frozenset.oneOther
  simp only [List.isEmpty_nil, bind_assoc]
  unfold Builtin.Frozenset.addrOf setAdd
  refine wpAny_bind (wpAny_pure (wpAny_bind (wpAny_pure (wpAny_bind (wpAny_holding ?_)))))
  refine wpAny_bind (wpAny_pyHash_tuple (by show X.A.units + 1 < _; omega) kx ?_)
  refine TabS.add (s := { s with toks := s.toks + (k.length + 1) }) S kx (by show X.A.units + 1 < _; omega) hf fun b h' M' es' ep' t' sm S' m1 m2 => ?_
  refine wpAny_pure ⟨_, rfl, q M' _ m1 m2 (I.write (e := a) (t' := s.toks + (k.length + 1)) (by rw [ha]; trivial) (.inl rfl) (fun b u hb hu => (sm.2 b hb).trans hu) ?_ S'.t0.ok)⟩
  obtain ⟨o', ho', _⟩ := S'.obj
  exact ⟨o', ho'⟩
/-- {elt for target in iter if ..}, elt a tuple -/
def tScK (K : PySem.W.Frag) (P : Program) (w : World) (wi : TI) (g : TG) (tt : TT) (te : TE) (vs : List Nat) : TE := fun σ H Q => wi σ H fun J H1 => ∀ D, H1 D = none → ∃ W : Nat → Nat → Hp → Prop, (∃ m, W 0 m (L2.upd H1 D (TabO P w D []))) ∧ ∀ i m H, W i m H →
  (J.stop i H ∧ Q (.ref D) H) ∨ (J.go i H ∧ ∃ Nx : Hp → Prop, (∀ H', Nx H' → ∃ m', m' < m ∧ W (i + 1) m' H') ∧ ∀ x H', J.yld i H x H' → g x (wipe σ vs) H' fun σ2 H2 => wipe σ2 vs = wipe σ vs ∧ tt σ2 H2 fun b H3 =>
    if b = true then te σ2 H3 fun y H4 => ∃ (x : Addr) (k : TKey) (M : List (Addr × TKey)), y = .ref x ∧ SqT K H4 x (k.map kV) ∧ H4 D = some (TabO P w D M) ∧ (∀ p ∈ M, SqT K H4 p.1 (p.2.map kV)) ∧ M.length + 1 < 64 ∧ ∀ M', (k ∈ M.map Prod.snd → M' = M) → (k ∉ M.map Prod.snd → M'.Perm ((x, k) :: M)) → Nx (L2.upd H4 D (TabO P w D M')) else Nx H3)
theorem pe_scK {elt tg iter : Expr} {ifs : List Expr} {scope : Scope} {own : List (PySem.Str × Nat)} {pos : Pos} {wi : TI} {g : TG} {tt : TT} {te : TE} (hu : X.A.units + 2 < cLine) (hc : X.calm = true) (hN : X.N.Nodup) (hi : PI X tg iter wi) (ok : BlkOk X.N X.env.scope scope own)
    (hg : ∀ (s : Shared) (H : Hp) (C : Addr) (cl : List (PySem.Str × Addr)) (fp : List Addr), PG (X.blk s H scope (compEnvC scope cl C X.env) fp) tg g) (ht : ∀ (s : Shared) (H : Hp) (C : Addr) (cl : List (PySem.Str × Addr)) (fp : List Addr), PTs (X.blk s H scope (compEnvC scope cl C X.env) fp) ifs tt)
    (he : ∀ (s : Shared) (H : Hp) (C : Addr) (cl : List (PySem.Str × Addr)) (fp : List Addr), PE (X.blk s H scope (compEnvC scope cl C X.env) fp) elt te) (hs : ∀ x, foldedSetIterable iter X.env x = pure x := by intro _; rfl) :
    PE X (.SetComp elt [⟨tg, iter, ifs, 0⟩] scope pos) (tScK X.K X.prog X.w wi g tt te (own.map (·.2))) := by
  refine ⟨fun pins s σ H Q I want => ?_⟩
  rw [PpSet.eval_SetComp]
  have free : ∀ y ∈ scope.names, y.2 = .free → ∃ c, X.env.cells.lookup y.1 = some c := fun y hy e => I.ok.has _ ((ok.free y hy e).imp id id)
  refine wpAny_comprehension_free (use := none) rfl hs (closure_ok free) ok.kind (fun y hy e => by rw [ok.uniq y hy, e])
    (thn (hi.run pins s σ H _ I want) fun xv s1 hx => thn hx fun itv s2 ⟨it, fp, tn, J, H2, e, I2, T, st2, f2, q⟩ => ?_)
  subst e
  refine PpSet.newSet_ok (newEnv_comp ?_)
  generalize hD : s2.heap.objs.size = D
  have Dn : H2 D = none := I2.hok.fresh (Nat.le_of_eq hD)
  obtain ⟨W, ⟨m0, w0⟩, turn⟩ := q D Dn
  generalize hs3 : ({ s2 with heap := s2.heap.push { cls := .type "set", dict := none, data := .set #[] 0 (.fresh 0 0 (!X.w.params.followText "set-order")) } } : Shared) = s3
  have heap3 : s3.heap = s2.heap.push { cls := .type "set", dict := none, data := .set #[] 0 (.fresh 0 0 (!X.w.params.followText "set-order")) } := by rw [← hs3]
  have I3 : Inv X pins σ (L2.upd H2 D (TabO X.prog X.w D [])) s3 := by
    rw [← hs3]
    refine I2.laid (t' := s2.toks) (fun b o e => Heap.get?_push_of_some _ e) (Nat.le_of_eq hD) (Tab0.ok (TabS.t0 (tab_new ?_)))
    rw [← hD]; exact Heap.get?_push_size _ rfl
  have f3 : ∀ b ∈ fp, FpOk X pins (L2.upd H2 D (TabO X.prog X.w D [])) b ∧ b < s3.heap.objs.size := fun b hb => by
    obtain ⟨o, eo, _⟩ := T.obj _ _ st2 b hb
    have lt := Heap.lt_size eo
    refine ⟨⟨?_, (f2 b hb).2⟩, by rw [heap3, Heap.size_push]; exact Nat.lt_succ_of_lt lt⟩
    rw [upd_ne (by rw [← hD]; exact Nat.ne_of_lt lt)]
    exact (f2 b hb).1
  have st3 : tn 0 s3.heap := T.keep _ _ _ st2 fun b _ o e => by rw [heap3]; exact Heap.get?_push_of_some _ e
  have I4 := block_start I3 ok hN f3
  have n3 : ∀ b ∈ fp, (L2.upd H2 D (TabO X.prog X.w D [])) b = none := fun b hb => (f3 b hb).1.1
  generalize hH3 : L2.upd H2 D (TabO X.prog X.w D []) = H3 at I3 I4 w0 f3 n3
  have pg := hg s3 H3 s3.heap.objs.size (cellsFrom (s3.heap.objs.size + 1) scope.names (cloFrom X.env.cells scope.names [])) fp
  have pt := ht s3 H3 s3.heap.objs.size (cellsFrom (s3.heap.objs.size + 1) scope.names (cloFrom X.env.cells scope.names [])) fp
  have pe := he s3 H3 s3.heap.objs.size (cellsFrom (s3.heap.objs.size + 1) scope.names (cloFrom X.env.cells scope.names [])) fp
  show codeAny _ _ (.compStart (.SetComp elt [⟨tg, iter, ifs, 0⟩] scope pos) 0 (.ref it) (.ref D) (compEnvC scope (cellsFrom (s3.heap.objs.size + 1) scope.names (cloFrom X.env.cells scope.names [])) s3.heap.objs.size X.env)) (compPost (model X.prog X.w) X.A X.xe none _ (.ref D) s3.heap.objs.size) { s3 with heap := pushCells (s3.heap.push { cls := .type "dict", data := .dict #[] }) scope.names }
  generalize hce : compEnvC scope (cellsFrom (s3.heap.objs.size + 1) scope.names (cloFrom X.env.cells scope.names [])) s3.heap.objs.size X.env = ce at I4 pg pt pe ⊢
  have locs : ce.locals = s3.heap.objs.size := by subst hce; rfl
  generalize hs4 : ({ s3 with heap := pushCells (s3.heap.push { cls := .type "dict", data := .dict #[] }) scope.names } : Shared) = s4 at I4 ⊢
  have st4 : tn 0 s4.heap := T.keep _ _ _ st3 fun b _ o e => by rw [← hs4]; exact pushCells_keeps _ _ _ _ (Heap.get?_push_of_some _ e)
  have held : ∀ {σ' : L2.St} {H' : Hp} {s' : Shared}, Inv (X.blk s3 H3 scope ce fp) [] σ' H' s' → (∀ b ∈ fp, H' b = none) → ∀ b ∈ fp, FpOk (X.blk s3 H3 scope ce fp) [] H' b := fun {σ' H' s'} I' hn b hb =>
    ⟨hn b hb, (I'.ok.exf b hb).1, I'.ok.exfs b hb, .inl hb, fun x c e => (I'.ok.exf b hb).2 x c e, fun p hp => absurd (show p ∈ ([] : List (Addr × Obj)) ++ [] from hp) (by simp)⟩
  suffices loop : codeAny (model X.prog X.w) X.A (.compLoop (.SetComp elt [⟨tg, iter, ifs, 0⟩] scope pos) 0 (.ref it) (.ref D) ce) (compPost (model X.prog X.w) X.A X.xe none (EP X pins σ Q) (.ref D) s3.heap.objs.size) s4 from
    PpSet.codeAny_compStart_set loop (T.self X.A 0 _ _ _ st4 loop)
  refine PpSet.compLoopS_any (fun n s' => ∃ i H', Inv (X.blk s3 H3 scope ce fp) [] (wipe σ (own.map (·.2))) H' s' ∧ tn i s'.heap ∧ (∀ b ∈ fp, H' b = none) ∧ W i n H') ?_ m0 ⟨0, H3, I4, st4, n3, w0⟩
  rintro n s5 ⟨i, H5, I5, st5, n5, w5⟩
  rcases turn i n H5 w5 with ⟨stop, fin⟩ | ⟨go, Nx, hNx, step⟩
  · refine thnF (T.done (X.blk s3 H3 scope ce fp) rfl rfl rfl hc i [] s5 _ H5 (fun _ _ => False) I5 (held I5 n5) st5 stop) fun r s6 ⟨hr, I6⟩ => ?_
    subst hr
    have I7 : Inv X pins σ H5 s6 := I3.call' (ch := fp) I6.os I6.base I6.hok I6.bare fun b hb => ⟨(f3 b hb).1.2.2.2.1, (f3 b hb).1.2.1, (f3 b hb).1.2.2.2.2.1, (f3 b hb).1.2.2.2.2.2⟩
    obtain ⟨m, hn, _⟩ := I6.loc
    have hn' : s6.heap.Ns s3.heap.objs.size m := locs ▸ hn
    have none_ : H5 s3.heap.objs.size = none := locs ▸ I6.free
    obtain ⟨g0, g1, g2, g3, g4, g5⟩ := I3.fpOk (Nat.le_refl _) none_
    exact ⟨m, hn', fun h'' sb => ⟨.ref D, H5, I7.turned (t' := s6.toks) (fun b o hb e => (sb.2 b hb).trans e) g0 g1 g3 g4 g5, rfl, fin⟩⟩
  · refine thnF (T.item (X.blk s3 H3 scope ce fp) rfl rfl rfl hc i [] s5 _ H5 (fun _ _ => False) I5 (held I5 n5) st5 go) fun r s6 ⟨u, hr, h6⟩ => ?_
    subst hr
    refine thnF h6 fun _ s7 ⟨x, H7, I7, r7, y7, st7, n7⟩ => ?_
    refine thnF (pg.run _ s7 _ H7 x u _ (I7.pinned (held I7 n7) (T.obj _ _ st7)) r7 (step x H7 y7)) fun _ s8 ⟨σ8, H8, I8, hw8, q8⟩ => ?_
    refine thnF (pt.run _ s8 σ8 H8 _ I8 q8) fun b s9 ⟨H9, I9, q9⟩ => ?_
    have close : ∀ {s' : Shared} {H' : Hp}, Inv (X.blk s3 H3 scope ce fp) ([] ++ pinsAt fp s7.heap) σ8 H' s' → Nx H' → ∃ m, m < n ∧ ∃ i H', Inv (X.blk s3 H3 scope ce fp) [] (wipe σ (own.map (·.2))) H' s' ∧ tn i s'.heap ∧ (∀ b ∈ fp, H' b = none) ∧ W i m H' := fun {s' H'} I' nx => by
      obtain ⟨m', hm, w'⟩ := hNx H' nx
      have pin : ∀ b ∈ fp, ∀ o, s7.heap.get? b = some o → s'.heap.get? b = some o ∧ H' b = none := fun b hb o e =>
        have z := I'.pin (b, o) (List.mem_append_right _ (List.mem_append_right _ (mem_pinsAt hb e)))
        ⟨z.1, z.2.1⟩
      refine ⟨m', hm, i + 1, H', (I'.unpinned (pins := [])).weak (by rw [← hw8, wipe_length]) (fun j v e => ?_), T.keep _ _ _ st7 fun b hb o e => (pin b hb o e).1, fun b hb => ?_, w'⟩
      · rw [← hw8] at e
        exact (wipe_some e).1
      · obtain ⟨o, e, _⟩ := T.obj _ _ st7 b hb
        exact (pin b hb o e).2
    cases b with
    | false =>
      rw [if_neg (by decide)] at q9
      rw [if_neg (by decide)]
      exact close I9 q9
    | true =>
      rw [if_pos rfl] at q9
      rw [if_pos rfl]
      refine thnF (pe.run _ s9 σ8 H9 _ I9 q9) fun z s10 ⟨yv, H10, I10, r10, x2, k, M, ey, hk, hD10, hM, hf, nx⟩ => ?_
      subst ey
      cases (show z = Value.ref x2 from r10)
      exact add_tup (X := X.blk s3 H3 scope ce fp) I10 hu hD10 hM hk hf fun M' s11 a1 a2 I11 => close I11 (nx M' a1 a2)
end
end Vf

namespace Vf
open PySem PySem.Spec PyProof.Rows L2
theorem perm_of_map {α β : Type} {f : α → β} {vs ws : List β} (h : vs.Perm ws) : ∀ {M : List α}, ws = M.map f → ∃ M1 : List α, M1.Perm M ∧ vs = M1.map f := by
  induction h with
  | nil =>
    intro M e
    exact ⟨[], by rw [List.map_eq_nil_iff.mp e.symm], rfl⟩
  | cons x _ ih =>
    intro M e
    obtain ⟨y, M', rfl, rfl, e2⟩ := List.map_eq_cons_iff.mp e.symm
    obtain ⟨M1, p, e3⟩ := ih e2.symm
    exact ⟨y :: M1, p.cons y, by rw [e3]; rfl⟩
  | swap x y l =>
    intro M e
    obtain ⟨a, M', rfl, rfl, e2⟩ := List.map_eq_cons_iff.mp e.symm
    obtain ⟨b, M2, rfl, rfl, e3⟩ := List.map_eq_cons_iff.mp e2
    exact ⟨b :: a :: M2, List.Perm.swap _ _ _, by rw [← e3]; rfl⟩
  | trans _ _ ih1 ih2 =>
    intro M e
    obtain ⟨M2, p2, e2⟩ := ih2 e
    obtain ⟨M1, p1, e1⟩ := ih1 e2
    exact ⟨M1, p1.trans p2, e1⟩
theorem relKey {K : PySem.W.Frag} {m : Lay} {H : Hp} {k : TKey} {v : V} (r : RelD K m H (keyD k) v) : ∃ x, v = .ref x ∧ TupAt K m H x (k.map kV) := by
  unfold keyD RelD at r
  obtain ⟨a, vs, rfl, ta, ra⟩ := r
  rw [RelDs.kD ra] at ta
  exact ⟨a, rfl, ta⟩
theorem keyRel {K : PySem.W.Frag} {m : Lay} {H : Hp} {k : TKey} {x : Addr} (t : TupAt K m H x (k.map kV)) : RelD K m H (keyD k) (.ref x) := by
  unfold keyD RelD
  exact ⟨x, _, rfl, t, rel_kD k⟩
theorem keysRel {K : PySem.W.Frag} {m : Lay} {H : Hp} : ∀ {M : List (Addr × TKey)}, (∀ p ∈ M, TupAt K m H p.1 (p.2.map kV)) → RelDs K m H (M.map fun p => keyD p.2) ((M.map Prod.fst).map V.ref)
  | [], _ => by unfold List.map RelDs; rfl
  | p :: M, h => by
    rw [List.map_cons, List.map_cons, List.map_cons]
    unfold RelDs
    exact ⟨_, _, rfl, keyRel (h p List.mem_cons_self), keysRel fun q hq => h q (List.mem_cons_of_mem _ hq)⟩
section
variable {X : Cx}
/-- sorted(a set of tuples) -/
def rSortK (K : PySem.W.Frag) (P : Program) (w : World) : List V → Hp → VK → Prop := fun vs H Q => ∃ (a : Addr) (M : List (Addr × TKey)) (m : Lay) (h : DH), vs = [.ref a] ∧ H a = some (TabO P w a M) ∧ RelH K m H h ∧ (∀ p ∈ M, TupAt K m H p.1 (p.2.map kV)) ∧
  ∀ M1 : List (Addr × TKey), M1.Perm M → SrtOk (M1.map fun p => keyD p.2) ∧ ∀ p zs, H p = none → RelDs K m H (srtD (M1.map fun p => keyD p.2)) zs → Q (.ref p) (L2.upd H p (.lst zs))
open PySem.W (alike alikeAll dataLt AllAlike Sortable dataKind EachIs sortVals keyToks) in
theorem cr_sortK {n : Nat} (hc : X.calm = true) (hr : Room n X.A) : CallR X (.builtin "sorted") (rSortK X.K X.prog X.w) := by
  intro pins s σ H vs us Q I r ⟨a, M, m, h, e, ha, rh, hM, q⟩
  subst e
  rw [Vals.ref1 r]
  obtain ⟨es, ep, t, S⟩ := (show Tab0 X.prog X.w s.heap a M from (I.hok a _ ha).1).tab fun p hp => key_ofS I (hM p hp).sq
  obtain ⟨o, ho, hex, hd⟩ := S.obj
  have ez : es.size = M.length := rows_len S.row
  have few := S.few
  have hu := hr.un
  refine Calls.call_function_entry PyProof.Rows.kind_sorted PyProof.Rows.plain_sorted PyProof.Rows.entry_sorted (PyProof.Rows.args_sorted1 _) ?_
  unfold Builtin.«sorted»
  refine wpAny_bind (m := checkCount "sorted" 1 1 _) (wpAny_pure ?_)
  refine wpAny_bind (collect_set (A := X.A.in1) (I.ok.hd hc) ⟨o, ho, hex.1, hd⟩ S.fit (by unfold scanBound; omega) S.tok.ris S.led fun s1 its k1 hz g1 o1 pm => ?_)
  have I1 : Inv X pins σ H s1 := I.call' (ch := []) o1 (Un.kept k1) (I.hok.kept k1) (by rw [g1]; exact I.bare) (fun _ z => nomatch z)
  have e0 : es.toList.map (·.2) = M.map fun p => Value.ref p.1 := by
    rw [S.row, List.map_map]; rfl
  rw [e0] at pm
  obtain ⟨M1, pM, eits⟩ := perm_of_map pm rfl
  obtain ⟨so, q⟩ := q M1 pM
  have hM1 : ∀ p ∈ M1, TupAt X.K m H p.1 (p.2.map kV) := fun p hp => hM p (pM.mem_iff.mp hp)
  have rk := keysRel hM1
  have rv : Vals ((M1.map Prod.fst).map V.ref) its := by
    rw [eits, show M1.map (fun p => Value.ref p.1) = (M1.map Prod.fst).map Value.ref by rw [List.map_map]; rfl]; exact vals_refs _
  have lM : M1.length < 64 := by rw [pM.length_eq]; exact few
  have hL : its.length ≤ sizeLine := by rw [eits, List.length_map, sizeLine_eq]; omega
  generalize hxs : (M1.map fun p => keyD p.2) = xs at so q rk
  refine wpAny_bind (wpAny_newList ?_ hL)
  have hoL : (s1.heap.push (seqObj "list" its.toArray 0)).get? s1.heap.objs.size = some (seqObj "list" its.toArray 0) := Heap.get?_push_size _ rfl
  show wpAny _ _ _ _ _ { s1 with heap := s1.heap.push (seqObj "list" its.toArray 0) }
  generalize hh2 : s1.heap.push (seqObj "list" its.toArray 0) = h2 at hoL ⊢
  have old : ∀ b ob, s1.heap.get? b = some ob → (PySem.W.sortingHeap h2 s1.heap.objs.size its).get? b = some ob := fun b ob e => PySem.W.sortingHeap_old (Nat.ne_of_lt (Heap.lt_size e)) (by rw [← hh2]; exact Heap.get?_push_of_some _ e)
  have e1 : EachIs (fun u d => ∃ v, RelV v u ∧ RelD X.K m H d v) its xs := each_of rk rv
  have rds : ∀ u d, d ∈ xs → (∃ v, RelV v u ∧ RelD X.K m H d v) → ∃ as, Reads (PySem.W.sortingHeap h2 s1.heap.objs.size its) u (toPy d) as := fun u d hd ⟨v, h1, h2⟩ => by
    obtain ⟨as, r⟩ := Dp.reads I1 _ v u (h2.dp (so.it d hd).1) h1
    exact ⟨as, PySem.W.reads_keeps old r⟩
  have e2 : EachIs (fun u d => ∃ as, Reads (PySem.W.sortingHeap h2 s1.heap.objs.size its) u d as) its (xs.map toPy) := by
    have : ∀ {us : List Value} {ds : List D}, (∀ d ∈ ds, d ∈ xs) → EachIs (fun u d => ∃ v, RelV v u ∧ RelD X.K m H d v) us ds → EachIs (fun u d => ∃ as, Reads (PySem.W.sortingHeap h2 s1.heap.objs.size its) u d as) us (ds.map toPy) := by
      intro us ds hs e
      induction e with
      | nil => exact .nil
      | cons a b ih => exact .cons (rds _ _ (hs _ List.mem_cons_self) a) (ih fun d hd => hs d (List.mem_cons_of_mem _ hd))
    exact this (fun d hd => hd) e1
  have SA := PySem.W.SortsAt.data (prog := X.prog) (w := X.w) (A := X.A.in1.in1) (s := { s1 with heap := PySem.W.sortingHeap h2 s1.heap.objs.size its }) e2 so.al so.so (fun d hd => by
    obtain ⟨x, hx, rfl⟩ := List.mem_map.mp hd
    have := (so.it x hx).2
    show X.A.units + 1 + 1 + _ < _
    omega)
  have e3 : EachIs (fun u d => (dataKind (PySem.W.sortingHeap h2 s1.heap.objs.size its) (xs.map toPy)).keyOf u = some (keyToks (toPy d))) its xs := by
    have : ∀ {us : List Value} {ds : List D}, (∀ d ∈ ds, d ∈ xs) → EachIs (fun u d => ∃ v, RelV v u ∧ RelD X.K m H d v) us ds → EachIs (fun u d => (dataKind (PySem.W.sortingHeap h2 s1.heap.objs.size its) (xs.map toPy)).keyOf u = some (keyToks (toPy d))) us ds := by
      intro us ds hs e
      induction e with
      | nil => exact .nil
      | cons a b ih =>
        obtain ⟨as, r⟩ := rds _ _ (hs _ List.mem_cons_self) a
        exact .cons (PySem.W.dataKind_some so.al (List.mem_map.mpr ⟨_, hs _ List.mem_cons_self, rfl⟩) r) (ih fun d hd => hs d (List.mem_cons_of_mem _ hd))
    exact this (fun d hd => hd) e1
  have e4 := PySem.W.sortVals_each (κ := dataKind (PySem.W.sortingHeap h2 s1.heap.objs.size its) (xs.map toPy)) (rev := false) (fun d : D => keyToks (toPy d)) e1 e3
  have e5 : xs.mergeSort (PySem.W.sortLe (dataKind (PySem.W.sortingHeap h2 s1.heap.objs.size its) (xs.map toPy)).toKeyOrd false fun d : D => keyToks (toPy d)) = srtD xs := rfl
  rw [e5] at e4
  obtain ⟨zs, q1, q2⟩ := of_each e4
  have lz : zs.length ≤ sizeLine := by
    rw [← q2.length]
    unfold srtD
    rw [List.length_mergeSort, ← hxs, List.length_map, sizeLine_eq]; omega
  refine wpAny_bind (wpAny_holding (wpAny_call_entry PyProof.Rows.slot_list_sort ⟨_, hoL, rfl⟩ PyProof.Rows.entry_list_sort
    (PySem.W.list_sort_vals (s := { s1 with heap := h2 }) hoL SA hL ⟨_, rfl, ?_⟩) (PyProof.Rows.args_list_sort _)))
  obtain ⟨e', he'⟩ := PyProof.Rows.sortedHeap_at (vs := its) (out := (sortVals (dataKind (PySem.W.sortingHeap h2 s1.heap.objs.size its) (xs.map toPy)) false its its).toArray) hoL
  have hfr : H s1.heap.objs.size = none := I1.hok.fresh (Nat.le_refl _)
  refine wpAny_pure ⟨_, rfl, .ref s1.heap.objs.size, L2.upd H s1.heap.objs.size (.lst zs), I1.laid (t' := s1.toks) (fun b u e => ?_) (Nat.le_refl _) (show ObjOk X.prog X.w _ _ _ (.lst zs) from ⟨lz, _, e', q1, he'⟩), rfl, q _ zs hfr q2⟩
  have hb : b < s1.heap.objs.size := Heap.lt_size e
  rw [PyProof.Rows.sortedHeap_old (Nat.ne_of_lt hb) (by rw [← hh2, size_push']; exact Nat.lt_succ_of_lt hb), ← hh2]
  exact Heap.get?_push_of_some _ e
/-! ### sorted({elt for target in iter if ..}) -/
def scGo (T : Tg) (t : WB) (e : W1) (ok : DH → Prop) (ρ : Rho) (fin : List TKey → DH → Prop) : List D → List TKey → DH → Prop
  | [], acc, h => ok h ∧ fin acc h
  | x :: xs, acc, h => ok h ∧ ∃ ρ1, tgD T x ρ = some ρ1 ∧ t ρ1 h fun b h1 => if b = true then e ρ1 h1 fun y h2 => ∃ k : TKey, y = keyD k ∧ acc.length + 1 < 64 ∧ scGo T t e ok ρ fin xs (putTs k acc) h2 else scGo T t e ok ρ fin xs acc h1
def wSortSc (wi : WI) (T : Tg) (t : WB) (e : W1) (vs : List Nat) : W1 := fun ρ h k => wi ρ h fun it h1 => scGo T t e it.ok (wipeD ρ vs) (fun acc h2 => ∀ l : List TKey, l.Perm acc → SrtOk (l.map keyD) ∧ k (.lst (srtD (l.map keyD))) h2) it.its [] h1
theorem sc_all {σ : L2.St} {H : Hp} {Q : VK} {wi : WI} {T : Tg} {t : WB} {e : W1} {vs : List Nat} (hv : ∀ i ∈ tgS T, i ∈ vs) (q : tD X.K (wSortSc wi T t e vs) σ H Q) :
    tScK X.K X.prog X.w (tDI X.K wi) (tgG X.K T) (tDB X.K t) (tD X.K e) vs σ H fun v H' => rSortK X.K X.prog X.w [v] H' Q := by
  obtain ⟨m, ρ, h, k, rs, rh, q, f⟩ := q
  refine ⟨m, ρ, h, _, rs, rh, q, fun it h1 m1 H1 J s1 rh1 ⟨G, Y, wk, hG, hY⟩ q1 p hp => ?_⟩
  have np : ¬ m1.pr p := rh1.notin hp
  have no : p ∉ m1.o := fun z => np (.inr z)
  generalize hF : (fun (acc : List TKey) (h2 : DH) => ∀ l : List TKey, l.Perm acc → SrtOk (l.map keyD) ∧ k (.lst (srtD (l.map keyD))) h2) = F at q1
  refine ⟨fun i n H2 => n = it.its.length - i ∧ i ≤ it.its.length ∧ ∃ (m2 : Lay) (h2 : DH) (acc : List TKey) (M : List (Addr × TKey)), m2.o = p :: m1.o ∧ Step m1 H1 ⟨m2.m, m1.o⟩ H2 ∧ Mv m1 H1 m2 H2 ∧ H2 p = some (TabO X.prog X.w p M) ∧ (M.map Prod.snd).Perm acc ∧ (∀ q ∈ M, TupAt X.K m2 H2 q.1 (q.2.map kV)) ∧ RelH X.K m2 H2 h2 ∧ RelS X.K m2 H2 (L2.wipe σ vs) (wipeD ρ vs) ∧
      scGo T t e it.ok (wipeD ρ vs) F (it.its.drop i) acc h2,
    ⟨_, rfl, Nat.zero_le _, m1.put p, h1, [], [], rfl, ⟨⟨⟨[], by simp [Lay.put]⟩, fun b z n => absurd z n, fun b u n eb => by rw [upd_ne (ne_of_none eb hp)]; exact eb⟩, rfl, fun b hb => upd_ne fun z => np (.inr (z ▸ hb))⟩, Mv.put _ hp, upd_same, List.Perm.refl _, fun q hq => (nomatch hq), rh1.put1 _ hp, ((rs.step s1).mv (Mv.put _ hp)).wipe vs, by simpa using q1⟩, ?_⟩
  rintro i n H2 ⟨rfl, hi2, m2, h2, acc, M, eo, s2, mv2, ep, pm, hM, rh2, rs2, q2⟩
  have po : p ∈ m2.o := by rw [eo]; exact List.mem_cons_self
  have g2 : G H2 := by
    refine hG m2 H2 h2 mv2 rh2 ?_
    cases hd : it.its.drop i <;> (rw [hd] at q2; exact q2.1)
  by_cases hlt : i < it.its.length
  · refine .inr ⟨wk.goes i H2 hlt g2, fun H5 => ∃ (m2 : Lay) (h2 : DH) (acc : List TKey) (M : List (Addr × TKey)), m2.o = p :: m1.o ∧ Step m1 H1 ⟨m2.m, m1.o⟩ H5 ∧ Mv m1 H1 m2 H5 ∧ H5 p = some (TabO X.prog X.w p M) ∧ (M.map Prod.snd).Perm acc ∧ (∀ q ∈ M, TupAt X.K m2 H5 q.1 (q.2.map kV)) ∧ RelH X.K m2 H5 h2 ∧ RelS X.K m2 H5 (L2.wipe σ vs) (wipeD ρ vs) ∧
      scGo T t e it.ok (wipeD ρ vs) F (it.its.drop (i + 1)) acc h2, fun H' p' => ⟨it.its.length - (i + 1), by omega, rfl, hlt, p'⟩, fun x H3 y0 => ?_⟩
    have y := wk.yields i H2 x H3 hlt g2 y0
    have hd : it.its.drop i = it.its[i] :: it.its.drop (i + 1) := List.drop_eq_getElem_cons hlt
    rw [hd] at q2
    obtain ⟨ok2, ρ3, e3, q3⟩ := q2
    obtain ⟨d, ed, st, rh3, rd⟩ := hY i m2 H2 x H3 h2 mv2 rh2 ok2 y
    have e4 : d = it.its[i] := by simpa [hlt] using ed.symm
    subst e4
    refine tg_ok T rd (rs2.step st) e3 fun σ4 rs4 hw => ⟨by rw [hw vs hv]; exact wipe_wipe σ vs, ?_⟩
    refine ⟨m2, ρ3, h2, _, rs4, rh3, q3, fun b h5 m5 H5 s5 rh5 q5 => ?_⟩
    have s25 : Step m2 H2 m5 H5 := st.trans s5
    have po5 : p ∈ m5.o := by rw [s25.same]; exact po
    cases b with
    | false => exact ⟨m5, h5, acc, M, s25.same.trans eo, s2.trans (s25.hide eo (fun z => rh5.dj p z po5) no), mv2.trans s25.mv, (s25.rsv p po).trans ep, pm, fun q hq => (hM q hq).step s25, rh5, rs2.step s25, q5⟩
    | true =>
      refine ⟨m5, ρ3, h5, _, rs4.step s5, rh5, q5, fun dy h6 v m6 H6 s6 rh6 ry ⟨kk, ey, hz, q6⟩ => ?_⟩
      subst ey
      have s26 : Step m2 H2 m6 H6 := s25.trans s6
      have po6 : p ∈ m6.o := by rw [s26.same]; exact po
      obtain ⟨x2, rfl, tx⟩ := relKey ry
      have sO : Step m1 H1 ⟨m6.m, m1.o⟩ H6 := s2.trans (s26.hide eo (fun z => rh6.dj p z po6) no)
      have mO := mv2.trans s26.mv
      have hM6 : ∀ q ∈ M, TupAt X.K m6 H6 q.1 (q.2.map kV) := fun q hq => (hM q hq).step s26
      refine ⟨x2, kk, M, rfl, tx.sq, (s26.rsv p po).trans ep, fun q hq => (hM6 q hq).sq, by have := pm.length_eq; rw [List.length_map] at this; omega, fun M' y1 y2 => ?_⟩
      have as : Mv m6 H6 m6 (L2.upd H6 p (TabO X.prog X.w p M')) := Mv.aside _ po6
      refine ⟨m6, h6, _, M', s26.same.trans eo, ⟨⟨sO.mv.pre, sO.mv.new, fun a u n ea => ?_⟩, rfl, fun a ha => ?_⟩, ⟨mO.pre, mO.new, fun a u n ea => ?_⟩, upd_same, ?_, ?_, rh6.aside _ po6, (rs2.step s26).mv as, q6⟩
      · rw [upd_ne (ne_of_none ea hp)]; exact sO.mv.keep a u n ea
      · rw [upd_ne (fun (z : a = p) => no (by rw [← z]; exact ha))]; exact sO.rsv a ha
      · rw [upd_ne (ne_of_none ea hp)]; exact mO.keep a u n ea
      · unfold putTs
        by_cases hk : kk ∈ acc
        · rw [if_pos (hasT_iff.mpr hk), y1 (pm.mem_iff.mpr hk)]; exact pm
        · rw [if_neg (fun z => hk (hasT_iff.mp z))]
          have := (y2 fun z => hk (pm.mem_iff.mp z)).map Prod.snd
          exact this.trans ((pm.cons kk).trans (List.perm_append_singleton kk acc).symm)
      · intro q hq
        by_cases hk : kk ∈ acc
        · rw [y1 (pm.mem_iff.mpr hk)] at hq
          exact (hM6 q hq).mv as
        · rcases List.mem_cons.mp ((y2 fun z => hk (pm.mem_iff.mp z)).mem_iff.mp hq) with rfl | hq
          · exact tx.mv as
          · exact (hM6 q hq).mv as
  · have e : i = it.its.length := by omega
    subst e
    rw [List.drop_length] at q2
    refine .inl ⟨wk.stops H2 g2, ?_⟩
    have sub2 : ∀ a ∈ m1.o, a ∈ m2.o := fun a ha => by rw [eo]; exact List.mem_cons_of_mem _ ha
    have rhb := rh2.back sub2
    refine ⟨p, M, ⟨m2.m, m1.o⟩, h2, rfl, ep, rhb, fun q hq => (hM q hq).mv (Mv.back sub2), fun M1 pM => ?_⟩
    have q3 := q2.2
    rw [← hF] at q3
    obtain ⟨so, q4⟩ := q3 (M1.map Prod.snd) ((pM.map Prod.snd).trans pm)
    rw [List.map_map] at so q4
    exact ⟨so, fun p' zs hp' rz => (Fol.step f (s1.trans s2)).new rhb hp' (.lstNew rhb hp' rz) q4⟩
section
variable {iter elt tg : Expr} {ifs : List Expr} {scope : Scope} {own : List (Str × Nat)} {pos pos2 p : Pos} {wi : WI} {T : Tg} {t : WB} {e : W1}
theorem de_sortSc {n : Nat} (hc : X.calm = true) (hr : Room n X.A) (hgs : Gl X "sorted") (hms : X.mg "sorted" = none) (hN : X.N.Nodup) (hi : DI X tg iter wi) (ok : BlkOk X.N X.env.scope scope own) (hv : ∀ i ∈ tgS T, i ∈ own.map (·.2))
    (hg : ∀ (s : Shared) (H : Hp) (C : Addr) (cl : List (Str × Addr)) (fp : List Addr), PG (X.blk s H scope (compEnvC scope cl C X.env) fp) tg (tgG X.K T))
    (ht : ∀ (s : Shared) (H : Hp) (C : Addr) (cl : List (Str × Addr)) (fp : List Addr), DTs (X.blk s H scope (compEnvC scope cl C X.env) fp) ifs t)
    (he : ∀ (s : Shared) (H : Hp) (C : Addr) (cl : List (Str × Addr)) (fp : List Addr), DE (X.blk s H scope (compEnvC scope cl C X.env) fp) elt e) (hs : ∀ x, foldedSetIterable iter X.env x = pure x := by intro _; rfl)
    (hst : starEach [.SetComp elt [⟨tg, iter, ifs, 0⟩] scope pos] X.env = (false, eval (.SetComp elt [⟨tg, iter, ifs, 0⟩] scope pos) X.env) :: starEach [] X.env := by rfl) (hpl : (backTo pos2 (starEach [] X.env)).any (·.1) = false := by rfl) :
    DE X (.Call (.Name "sorted" p) [.SetComp elt [⟨tg, iter, ifs, 0⟩] scope pos] [] pos2) (wSortSc wi T t e (own.map (·.2))) :=
  PE.imp (pe_callB (cr_sortK hc hr) hgs hms (by decide +kernel) (pa_cons (pe_scK (tt := tDB X.K t) (te := tD X.K e) (by have := hr.un; omega) hc hN hi ok hg ht he hs) pa_nil hst) (by decide) (by decide) hst hpl) fun σ H Q q => sc_all hv q
end
end
end Vf

namespace Vf
open PySem PySem.Spec PyProof.Rows L2
/-! ### edges: pairs of texts, each once -/
def insE (e : Stp) (l : List Stp) : List Stp := if e ∈ l then l else l ++ [e]
theorem insE_mem {e x : Stp} {l : List Stp} : x ∈ insE e l ↔ x = e ∨ x ∈ l := by
  unfold insE
  by_cases h : e ∈ l
  · rw [if_pos h]
    exact ⟨.inr, fun z => z.elim (fun z => z ▸ h) id⟩
  · rw [if_neg h]; simp [or_comm]
theorem insE_nodup {e : Stp} {l : List Stp} (h : l.Nodup) : (insE e l).Nodup := by
  unfold insE
  by_cases z : e ∈ l
  · rw [if_pos z]; exact h
  · rw [if_neg z, List.nodup_append]
    exact ⟨h, by simp, fun a ha b hb => by rw [List.mem_singleton.mp hb]; exact fun y => z (y ▸ ha)⟩
theorem insE_len (e : Stp) (l : List Stp) : (insE e l).length ≤ l.length + 1 := by
  unfold insE
  split
  · omega
  · simp
def allE (xs : List Stp) (l : List Stp) : List Stp := xs.foldl (fun l e => insE e l) l
theorem allE_mem {x : Stp} : ∀ {xs l : List Stp}, x ∈ allE xs l ↔ x ∈ xs ∨ x ∈ l
  | [], l => by simp [allE]
  | y :: xs, l => by
    show x ∈ allE xs (insE y l) ↔ _
    rw [allE_mem, insE_mem, List.mem_cons]
    constructor
    · rintro (h | h | h)
      · exact .inl (.inr h)
      · exact .inl (.inl h)
      · exact .inr h
    · rintro ((h | h) | h)
      · exact .inr (.inl h)
      · exact .inl h
      · exact .inr (.inr h)
theorem allE_nodup : ∀ {xs l : List Stp}, l.Nodup → (allE xs l).Nodup
  | [], _, h => h
  | y :: xs, l, h => allE_nodup (xs := xs) (insE_nodup h)
theorem hasT_step (e : Stp) (l : List Stp) : hasT (stepK e) (l.map stepK) = true ↔ e ∈ l := by
  rw [hasT_iff, List.mem_map]
  exact ⟨fun ⟨x, h, z⟩ => stepK_inj z ▸ h, fun h => ⟨e, h, rfl⟩⟩
theorem putTs_step (e : Stp) (l : List Stp) : putTs (stepK e) (l.map stepK) = (insE e l).map stepK := by
  unfold putTs insE
  by_cases h : e ∈ l
  · rw [if_pos ((hasT_step e l).mpr h), if_pos h]
  · rw [if_neg (fun z => h ((hasT_step e l).mp z)), if_neg h]; simp
theorem putVT_true (e : Stp) (l : List Stp) : putVT (stepK e) (D.bl true) (l.map stepK) (l.map fun _ => D.bl true) = (insE e l).map fun _ => D.bl true := by
  unfold putVT insE
  by_cases h : e ∈ l
  · rw [if_pos ((hasT_step e l).mpr h), if_pos h, List.zip_map', List.map_map]
    refine List.map_congr_left fun x _ => ?_
    show (if stepK x = stepK e then D.bl true else D.bl true) = _
    split <;> rfl
  · rw [if_neg (fun z => h ((hasT_step e l).mp z)), if_neg h]; simp
/-- a set comprehension of pairs, each kept if the test says so -/
theorem sc_pairs {T : Tg} {t : WB} {e : W1} {ok : DH → Prop} {ρ : Rho} {fin : List TKey → DH → Prop} {h : DH} {p : Stp → Bool} (hok : ok h) : ∀ {xs acc : List Stp},
    (∀ x ∈ xs, ∃ ρ1, tgD T (stepD x) ρ = some ρ1 ∧ (∀ k : KB, k (p x) h → t ρ1 h k) ∧ (p x = true → ∀ k : K1, k (stepD x) h → e ρ1 h k)) → acc.length + xs.length + 1 < 64 → fin ((allE (xs.filter p) acc).map stepK) h → scGo T t e ok ρ fin (xs.map stepD) (acc.map stepK) h
  | [], acc, _, _, hf => ⟨hok, hf⟩
  | x :: xs, acc, hx, hz, hf => by
    rw [List.map_cons]
    obtain ⟨ρ1, e1, h1, h2⟩ := hx x List.mem_cons_self
    refine ⟨hok, ρ1, e1, h1 _ ?_⟩
    cases hp : p x with
    | false =>
      rw [if_neg (by decide)]
      refine sc_pairs hok (fun y hy => hx y (List.mem_cons_of_mem _ hy)) (by simp at hz; omega) ?_
      rw [List.filter_cons, if_neg (by rw [hp]; decide)] at hf; exact hf
    | true =>
      rw [if_pos rfl]
      refine h2 hp _ ⟨stepK x, rfl, by simp at hz ⊢; omega, ?_⟩
      rw [putTs_step]
      have := insE_len x acc
      refine sc_pairs hok (fun y hy => hx y (List.mem_cons_of_mem _ hy)) (by simp at hz; omega) ?_
      rw [List.filter_cons, if_pos hp] at hf
      exact hf
/-- sorted of them, whatever the table's order was -/
theorem sorted_pairs {l : List Stp} (nd : l.Nodup) {ks : List TKey} (h : ks.Perm (l.map stepK)) : SrtOk (ks.map keyD) ∧ srtD (ks.map keyD) = (sortS l).map stepD := by
  obtain ⟨l', p, rfl⟩ := perm_of_map h rfl
  have e : (l'.map stepK).map keyD = l'.map stepD := by rw [List.map_map]; rfl
  rw [e]
  refine ⟨steps_srtOk _, ?_⟩
  rw [srtD_steps]
  congr 1
  exact ascS_ext (sortS_asc (p.nodup_iff.mpr nd)) (sortS_asc nd) fun x => by rw [(sortS_perm _).mem_iff, (sortS_perm _).mem_iff, p.mem_iff]
/-! ### the edges of a system -/
def nbE (x : Nb) : Stp := (x.1.own x.2.1, x.1.own x.2.2)
def nbEs (cs : List Chan) : List Stp := (nbL cs).map nbE
def unl (e : Stp) : Bool := !decide (e.1 = e.2)
def edgS (cs : List Chan) : List Stp := sortS (allE ((nbEs cs).filter unl) [])
theorem edgS_mem {cs : List Chan} {e : Stp} : e ∈ edgS cs ↔ e ∈ nbEs cs ∧ e.1 ≠ e.2 := by
  unfold edgS
  rw [(sortS_perm _).mem_iff, allE_mem, List.mem_filter]
  unfold unl
  simp
theorem edgS_asc (cs : List Chan) : AscS (edgS cs) := sortS_asc (allE_nodup List.nodup_nil)
theorem nbL_len2 (cs : List Chan) : (nbL cs).length ≤ 2 * cs.length := by
  rw [nbL_eq]
  refine flat_len fun c _ => ?_
  rw [c.nbs_kind]
  split
  · simp
  split
  · simp
  split
  · simp
  · simp
/-- the owners of an order pair -/
theorem nbEs_prs {svc : List Str} {cs : List Chan} (ho : OkSys svc cs) {e : Stp} : e ∈ nbEs cs ↔ ∃ pr ∈ prsL cs, e = (ownr cs pr.1, ownr cs pr.2) := by
  unfold nbEs prsL
  rw [List.mem_map]
  constructor
  · rintro ⟨x, hx, rfl⟩
    refine ⟨nbPr x, List.mem_map.mpr ⟨x, hx, rfl⟩, ?_⟩
    have hc := (nb_wl hx).1
    unfold nbPr
    rw [ownr_at ho hc, ownr_at ho hc]; rfl
  · rintro ⟨pr, hpr, rfl⟩
    obtain ⟨x, hx, rfl⟩ := List.mem_map.mp hpr
    refine ⟨x, hx, ?_⟩
    have hc := (nb_wl hx).1
    unfold nbPr
    rw [ownr_at ho hc, ownr_at ho hc]; rfl
theorem edg_sm {svc : List Str} {cs : List Chan} (ho : OkSys svc cs) : Sm 2 20000 (stpsD (edgS cs)) := by
  have nm : ∀ s ∈ edgS cs, okStp s := fun s hs => by
    obtain ⟨pr, hpr, rfl⟩ := (nbEs_prs ho).mp (edgS_mem.mp hs).1
    have m := prs_mem ((sortP_perm _).mem_iff.mpr hpr)
    exact ⟨ho.nm _ (ownr_svc ho m.1), ho.nm _ (ownr_svc ho m.2)⟩
  have l : (edgS cs).length ≤ 80 := by
    have h1 := nbL_len2 cs
    have h2 := ho.l40
    have h3 : (edgS cs).length ≤ (nbEs cs).length := ascS_len (edgS_asc cs).nodup fun s hs => (edgS_mem.mp hs).1
    unfold nbEs at h3
    rw [List.length_map] at h3
    omega
  exact (stps_sm nm l).mono (Nat.le_refl _) (by omega)
end Vf

namespace K21
open PySem PySem.Spec PyProof.Rows L2 Vf
def top (i : Nat) : Stmt := PySem.Challenge.pw_fewreleases_k21_edges_between_services.main.body.getD i (.Pass ⟨0, 0, 0, 0⟩)
structure Txt (K : PySem.W.Frag) (w : World) (mg : Str → Option Value) : Prop where
  zip : mg "zip" = none
  tuple : mg "tuple" = none
  sorted : mg "sorted" = none
  all : mg "all" = none
  len : mg "len" = none
  isinstance : mg "isinstance" = none
  str : mg "str" = none
  range : mg "range" = none
  set : mg "set" = none
  min : mg "min" = none
  repr : mg "repr" = none
  abs : mg "abs" = none
  int : mg "int" = none
  max : mg "max" = none
  LETTERS : ∃ u, mg "LETTERS" = some u ∧ constV (.str (Str.ofString "abcdefghijklmnopqrstuvwxyz")) u
  LONGEST_NAME : ∃ u, mg "LONGEST_NAME" = some u ∧ constV (.int 8) u
  MOST_CHANNELS : ∃ u, mg "MOST_CHANNELS" = some u ∧ constV (.int 40) u
  MOST_FIELDS : ∃ u, mg "MOST_FIELDS" = some u ∧ constV (.int 12) u
  MOST_SERVICES : ∃ u, mg "MOST_SERVICES" = some u ∧ constV (.int 12) u
  tab_ORDERED_WORDS : KTab K w mg "ORDERED_WORDS" ["reader first", "writer first", "split"] [["read", "switch"], ["switch", "read"], ["widen", "switch", "narrow"]]
  cf_System : ClsF K "System" ["services", "channels"]
theorem abc_mem : ∀ r : Fin 26, (97 + r.val) ∈ (Str.ofString "abcdefghijklmnopqrstuvwxyz").cps.toList := by decide +kernel
theorem shareOf {x : D} {l : List Int} (h : x ∈ l.map D.int) : ∃ n ∈ l, x = .int n := by
  obtain ⟨n, hn, e⟩ := List.mem_map.mp h
  exact ⟨n, hn, e.symm⟩
section
variable {P : Program} {w : World} {K : PySem.W.Frag} {mg : Str → Option Value} {base : Heap}
abbrev s_neighbours : Stmt := top 27
abbrev N_neighbours : List Str := ["chains", "chain", "pair"]
theorem sc_neighbours : FnScope N_neighbours ["chains"] (defScope s_neighbours) := ⟨rfl, rfl, rfl, by decide +kernel, rfl, by decide +kernel, by decide +kernel⟩
def S_neighbours : DSp := fun ds h k => ∃ (svc : List Str) (cs : List Chan), ds = [.lst (chainsD cs)] ∧ OkSys svc cs ∧ k (.lst ((nbL cs).map nbD)) h
abbrev s_chain_edges : Stmt := top 32
abbrev N_chain_edges : List Str := ["chains", "owners", "first", "second", "start", "end"]
theorem sc_chain_edges : FnScope N_chain_edges ["chains"] (defScope s_chain_edges) := ⟨rfl, rfl, rfl, by decide +kernel, rfl, by decide +kernel, by decide +kernel⟩
def S_chain_edges : DSp := fun ds h k => ∃ (svc : List Str) (cs : List Chan), ds = [.lst (chainsD cs)] ∧ OkSys svc cs ∧ cs.length ≤ 26 ∧ k (stpsD (edgS cs)) h
abbrev s_has_all : Stmt := top 16
abbrev N_has_all : List Str := ["fields", "wanted", "field"]
theorem sc_has_all : FnScope N_has_all ["fields", "wanted"] (defScope s_has_all) := ⟨rfl, rfl, rfl, by decide +kernel, rfl, by decide +kernel, by decide +kernel⟩
def S_has_all : DSp := fun ds h k => ∃ fs ws : List Str, ds = [.tup (fs.map .str), .tup (ws.map .str)] ∧ okS fs ∧ okS ws ∧ ws.length ≤ 1000 ∧ k (.bl (ws.all fun x => decide (x ∈ fs))) h
abbrev s_accepts : Stmt := top 15
abbrev N_accepts : List Str := ["reader", "written", "needs", "knows"]
theorem sc_accepts : FnScope N_accepts ["reader", "written"] (defScope s_accepts) := ⟨rfl, rfl, rfl, by decide +kernel, rfl, by decide +kernel, by decide +kernel⟩
def S_accepts : DSp := fun ds h k => ∃ a b c : List Str, ds = [.tup [.tup (a.map .str), .tup (b.map .str)], .tup (c.map .str)] ∧ okN a ∧ okN b ∧ okN c ∧ k (.bl (acc a b c)) h
abbrev s_channel_kind : Stmt := top 23
abbrev N_channel_kind : List Str := ["channel", "old", "new", "old_accepts_new", "new_accepts_old"]
theorem sc_channel_kind : FnScope N_channel_kind ["channel"] (defScope s_channel_kind) := ⟨rfl, rfl, rfl, by decide +kernel, rfl, by decide +kernel, by decide +kernel⟩
def S_channel_kind : DSp := fun ds h k => ∃ c : Chan, ds = [c.d] ∧ OkFmt c.old ∧ OkFmt c.new ∧ k (.str c.kind) h
abbrev s_channel_words : Stmt := top 28
abbrev N_channel_words : List Str := ["channel", "kind", "old", "new", "switches", "reads"]
theorem sc_channel_words : FnScope N_channel_words ["channel"] (defScope s_channel_words) := ⟨rfl, rfl, rfl, by decide +kernel, rfl, by decide +kernel, by decide +kernel⟩
def S_channel_words : DSp := fun ds h k => ∃ c : Chan, ds = [c.d] ∧ OkFmt c.old ∧ OkFmt c.new ∧ k (.lst (c.words.map txs)) h
abbrev s_word_owner : Stmt := top 29
abbrev N_word_owner : List Str := ["channel", "word"]
theorem sc_word_owner : FnScope N_word_owner ["channel", "word"] (defScope s_word_owner) := ⟨rfl, rfl, rfl, by decide +kernel, rfl, by decide +kernel, by decide +kernel⟩
def S_word_owner : DSp := fun ds h k => ∃ (c : Chan) (w : Str), ds = [c.d, .str w] ∧ k (.str (c.own w)) h
abbrev s_all_chains : Stmt := top 26
abbrev N_all_chains : List Str := ["system", "channel", "words", "word"]
theorem sc_all_chains : FnScope N_all_chains ["system"] (defScope s_all_chains) := ⟨rfl, rfl, rfl, by decide +kernel, rfl, by decide +kernel, by decide +kernel⟩
def S_all_chains : DSp := fun ds h k => ∃ (i : Nat) (svc : List Str) (cs : List Chan), ds = [.ref i] ∧ SysAt h i svc cs ∧ OkSys svc cs ∧ k (.lst (chainsD cs)) h
theorem chains_len : ∀ cs : List Chan, (chainsD cs).length ≤ 2 * cs.length
  | [] => by simp [chainsD]
  | c :: cs => by
    have := chains_len cs
    have := c.words_len.1
    unfold chainsD at *
    rw [List.flatMap_cons, List.length_append, List.length_map, List.length_cons]
    omega
abbrev s_edges : Stmt := top 31
abbrev N_edges : List Str := ["system"]
theorem sc_edges : FnScope N_edges ["system"] (defScope s_edges) := ⟨rfl, rfl, rfl, by decide +kernel, rfl, by decide +kernel, by decide +kernel⟩
def S_edges : DSp := fun ds h k => ∃ (i : Nat) (svc : List Str) (cs : List Chan), ds = [.ref i] ∧ SysAt h i svc cs ∧ OkSys svc cs ∧ cs.length ≤ 26 ∧ k (stpsD (edgS cs)) h
abbrev s__law_reads : Stmt := top 44
abbrev N__law_reads : List Str := ["_law_eye", "_law_sent", "_law_field"]
theorem sc__law_reads : FnScope N__law_reads ["_law_eye", "_law_sent"] (defScope s__law_reads) := ⟨rfl, rfl, rfl, by decide +kernel, rfl, by decide +kernel, by decide +kernel⟩
def S__law_reads : DSp := fun ds h k => ∃ a b c : List Str, ds = [.tup [.tup (a.map .str), .tup (b.map .str)], .tup (c.map .str)] ∧ okN a ∧ okN b ∧ okN c ∧ k (.bl (acc a b c)) h
theorem all_in {fs ws : List Str} {i : Nat} {e : W1} {ok : DH → Prop} {ρ : Rho} {h : DH} {fin : List D → DH → Prop} (hok : ok h) (hz : ws.length ≤ 1000) (he : ∀ y ∈ ws, ∀ k : K1, k (.bl (decide (y ∈ fs))) h → e (ρ.set i (some (.str y))) h k)
    (q : fin ((ws.map fun x => decide (x ∈ fs)).map .bl) h) : lcGo (.n i) wYes e ok ρ fin (ws.map .str) [] h := by
  refine lc_pure (g := fun x => match x with | .str x => .bl (decide (x ∈ fs)) | _ => .non) hok ?_ (szl (by simp; omega)) ?_
  · intro x hx k' hk'
    obtain ⟨y, hy, rfl⟩ := List.mem_map.mp hx
    exact he y hy k' hk'
  · rw [List.nil_append, List.map_map]
    rw [List.map_map] at q
    exact q
abbrev s__law_kind : Stmt := top 45
abbrev N__law_kind : List Str := ["_law_channel", "_law_old", "_law_new", "_law_ahead", "_law_behind"]
theorem sc__law_kind : FnScope N__law_kind ["_law_channel"] (defScope s__law_kind) := ⟨rfl, rfl, rfl, by decide +kernel, rfl, by decide +kernel, by decide +kernel⟩
def S__law_kind : DSp := fun ds h k => ∃ c : Chan, ds = [c.d] ∧ OkFmt c.old ∧ OkFmt c.new ∧ k (.str c.kind) h
abbrev s__law_pairs : Stmt := top 47
abbrev N__law_pairs : List Str := ["_law_lines", "_law_found", "_law_channel", "_law_label", "_law_kind_here"]
theorem sc__law_pairs : FnScope N__law_pairs ["_law_lines"] (defScope s__law_pairs) := ⟨rfl, rfl, rfl, by decide +kernel, rfl, by decide +kernel, by decide +kernel⟩
def S__law_pairs : DSp := fun ds h k => ∃ (svc : List Str) (cs : List Chan), ds = [chsD cs] ∧ OkSys svc cs ∧ ∀ h', GR h h' → k (.lst ((sortP (prsL cs)).map prsD)) h'
abbrev s__law_steps : Stmt := top 46
abbrev N__law_steps : List Str := ["_law_lines", "_law_found", "_law_channel", "_law_label", "_law_sender", "_law_receiver", "_law_old", "_law_new", "_law_word"]
theorem sc__law_steps : FnScope N__law_steps ["_law_lines"] (defScope s__law_steps) := ⟨rfl, rfl, rfl, by decide +kernel, rfl, by decide +kernel, by decide +kernel⟩
def S__law_steps : DSp := fun ds h k => ∃ (svc : List Str) (cs : List Chan) (dd : D), ds = [dd] ∧ ChAt h dd cs ∧ OkSys svc cs ∧ ∀ n h', GR h h' → n = h.length → h'[n]? = some (.dt (ksOf (lawP cs)) (dsOf (lawP cs))) → k (.ref n) h'
abbrev s__law_edges : Stmt := top 48
abbrev N__law_edges : List Str := ["_law_lines", "_law_owners", "_law_found", "_law_first", "_law_second"]
theorem sc__law_edges : FnScope N__law_edges ["_law_lines"] (defScope s__law_edges) := ⟨rfl, rfl, rfl, by decide +kernel, rfl, by decide +kernel, by decide +kernel⟩
def S__law_edges : DSp := fun ds h k => ∃ (svc : List Str) (cs : List Chan), ds = [chsD cs] ∧ OkSys svc cs ∧ ∀ h', GR h h' → k (.lst ((edgS cs).map stepD)) h'
abbrev s_is_ascending : Stmt := top 8
abbrev N_is_ascending : List Str := ["parts", "low", "high"]
theorem sc_is_ascending : FnScope N_is_ascending ["parts"] (defScope s_is_ascending) := ⟨rfl, rfl, rfl, by decide +kernel, rfl, by decide +kernel, by decide +kernel⟩
def S_is_ascending : DSp := fun ds h k => (∃ (xs : List Str) (d : D), ds = [d] ∧ (d = .tup (xs.map .str) ∨ d = .lst (xs.map .str)) ∧ Asc xs ∧ xs.length ≤ 100 ∧ k (.bl true) h) ∨ ∃ l : List Stp, ds = [stpsD l] ∧ AscS l ∧ l.length ≤ 1000 ∧ k (.bl true) h
theorem zip_tailS {R : Stp → Stp → Prop} : ∀ xs : List Stp, xs.Pairwise R → ∀ p ∈ xs.zip (xs.drop 1), R p.1 p.2
  | [], _, p, hp => nomatch hp
  | [x], _, p, hp => by simp at hp
  | x :: y :: r, h, p, hp => by
    have h' := List.pairwise_cons.mp h
    rw [List.drop_succ_cons, List.drop_zero, List.zip_cons_cons] at hp
    rcases List.mem_cons.mp hp with rfl | hp
    · exact h'.1 y List.mem_cons_self
    · exact zip_tailS (y :: r) h'.2 p (by simpa using hp)
abbrev s_is_name : Stmt := top 7
abbrev N_is_name : List Str := ["value", "letter"]
theorem sc_is_name : FnScope N_is_name ["value"] (defScope s_is_name) := ⟨rfl, rfl, rfl, by decide +kernel, rfl, by decide +kernel, by decide +kernel⟩
def S_is_name : DSp := fun ds h k => ∃ x : Str, ds = [.str x] ∧ nameOk x ∧ k (.bl true) h
abbrev s_is_names : Stmt := top 9
abbrev N_is_names : List Str := ["value", "fewest", "most", "part"]
theorem sc_is_names : FnScope N_is_names ["value", "fewest", "most"] (defScope s_is_names) := ⟨rfl, rfl, rfl, by decide +kernel, rfl, by decide +kernel, by decide +kernel⟩
def S_is_names : DSp := fun ds h k => ∃ (xs : List Str) (lo hi : Int), ds = [txs xs, .int lo, .int hi] ∧ (∀ x ∈ xs, nameOk x) ∧ Asc xs ∧ xs.length ≤ 100 ∧ lo ≤ xs.length ∧ xs.length ≤ hi ∧ k (.bl true) h
abbrev s_is_fields : Stmt := top 12
abbrev N_is_fields : List Str := ["value"]
theorem sc_is_fields : FnScope N_is_fields ["value"] (defScope s_is_fields) := ⟨rfl, rfl, rfl, by decide +kernel, rfl, by decide +kernel, by decide +kernel⟩
def S_is_fields : DSp := fun ds h k => ∃ (xs : List Str), ds = [txs xs] ∧ OkF xs ∧ k (.bl true) h
abbrev s_is_reader : Stmt := top 13
abbrev N_is_reader : List Str := ["value", "needs", "knows"]
theorem sc_is_reader : FnScope N_is_reader ["value"] (defScope s_is_reader) := ⟨rfl, rfl, rfl, by decide +kernel, rfl, by decide +kernel, by decide +kernel⟩
def S_is_reader : DSp := fun ds h k => ∃ f : Fmt, ds = [f.rd] ∧ OkFmt f ∧ k (.bl true) h
abbrev s_is_format : Stmt := top 14
abbrev N_is_format : List Str := ["value", "written", "reader"]
theorem sc_is_format : FnScope N_is_format ["value"] (defScope s_is_format) := ⟨rfl, rfl, rfl, by decide +kernel, rfl, by decide +kernel, by decide +kernel⟩
def S_is_format : DSp := fun ds h k => ∃ f : Fmt, ds = [f.d] ∧ OkFmt f ∧ k (.bl true) h
abbrev s_is_channel : Stmt := top 22
abbrev N_is_channel : List Str := ["services", "value", "name", "sender", "receiver", "old", "new"]
theorem sc_is_channel : FnScope N_is_channel ["services", "value"] (defScope s_is_channel) := ⟨rfl, rfl, rfl, by decide +kernel, rfl, by decide +kernel, by decide +kernel⟩
def S_is_channel : DSp := fun ds h k => ∃ (svc : List Str) (c : Chan), ds = [txs svc, c.d] ∧ (∀ x ∈ svc, nameOk x) ∧ svc.length ≤ 12 ∧ OkCh svc c ∧ k (.bl true) h
abbrev s_is_channels : Stmt := top 21
abbrev N_is_channels : List Str := ["services", "value", "part", "channel"]
theorem sc_is_channels : FnScope N_is_channels ["services", "value"] (defScope s_is_channels) := ⟨rfl, rfl, rfl, by decide +kernel, rfl, by decide +kernel, by decide +kernel⟩
def S_is_channels : DSp := fun ds h k => ∃ (svc : List Str) (cs : List Chan), ds = [txs svc, chsD cs] ∧ OkSys svc cs ∧ k (.bl true) h
abbrev s_System___init__ : Stmt := inClass (top 20) 0
abbrev N_System___init__ : List Str := ["self", "services", "channels"]
theorem sc_System___init__ : FnScope N_System___init__ ["self", "services", "channels"] (defScope s_System___init__) := ⟨rfl, rfl, rfl, by decide +kernel, rfl, by decide +kernel, by decide +kernel⟩
def S_System___init__ : DSp := fun ds h k => ∃ (n : Nat) (svc : List Str) (cs : List Chan), ds = [.ref n, txs svc, chsD cs] ∧ OkSys svc cs ∧ h[n]? = some (.obj "System" [] []) ∧ k .non (h.set n (.obj "System" ["services", "channels"] [txs svc, chsD cs]))
abbrev s__law_more : Stmt := top 41
abbrev N__law_more : List Str := ["_law_form", "_law_extra", "_law_at"]
theorem sc__law_more : FnScope N__law_more ["_law_form", "_law_extra"] (defScope s__law_more) := ⟨rfl, rfl, rfl, by decide +kernel, rfl, by decide +kernel, by decide +kernel⟩
def S__law_more : DSp := fun ds h k => ∃ (f : Fmt) (ex : List Str), ds = [f.d, txs ex] ∧ OkS2 f ∧ (∀ x ∈ ex, nameOk x) ∧ ex.length ≤ 1 ∧ ∀ g : Fmt, OkFmt g → k g.d h
abbrev s__law_take : Stmt := top 35
abbrev N__law_take : List Str := ["_law_urn_here", "_law_below", "_law_digit"]
theorem sc__law_take : FnScope N__law_take ["_law_urn_here", "_law_below"] (defScope s__law_take) := ⟨rfl, rfl, rfl, by decide +kernel, rfl, by decide +kernel, by decide +kernel⟩
def S__law_take : DSp := fun ds h k => ∃ (u : Nat) (n : Int), ds = [.ref u, .int n] ∧ Urn h u ∧ 0 < n ∧ n < 2 ^ 64 ∧ ∀ r h', 0 ≤ r → r < n → UM u h h' → k (.int r) h'
abbrev s__law_of : Stmt := top 36
abbrev N__law_of : List Str := ["_law_urn_here", "_law_items"]
theorem sc__law_of : FnScope N__law_of ["_law_urn_here", "_law_items"] (defScope s__law_of) := ⟨rfl, rfl, rfl, by decide +kernel, rfl, by decide +kernel, by decide +kernel⟩
def S__law_of : DSp := fun ds h k => ∃ (u : Nat) (d : D) (xs : List D), ds = [.ref u, d] ∧ Urn h u ∧ (d = .lst xs ∨ d = .tup xs ∨ ∃ z : Str, d = .str z ∧ xs = z.cps.toList.map fun c => .str ⟨#[c]⟩) ∧ 0 < xs.length ∧ xs.length ≤ 1000 ∧ ∀ x ∈ xs, ∀ h', UM u h h' → k x h'
abbrev s__law_some : Stmt := top 38
abbrev N__law_some : List Str := ["_law_urn_here", "_law_items", "_law_share", "_law_item"]
theorem sc__law_some : FnScope N__law_some ["_law_urn_here", "_law_items", "_law_share"] (defScope s__law_some) := ⟨rfl, rfl, rfl, by decide +kernel, rfl, by decide +kernel, by decide +kernel⟩
def S__law_some : DSp := fun ds h k => ∃ (u : Nat) (xs : List D) (n : Int), (ds = [.ref u, .tup xs, .int n] ∨ ds = [.ref u, .lst xs, .int n]) ∧ Urn h u ∧ 0 < n ∧ n < 1000 ∧ xs.length ≤ 1000 ∧ ∀ ys h', ys.Sublist xs → UM u h h' → k (.tup ys) h'
abbrev s__law_loose : Stmt := top 40
abbrev N__law_loose : List Str := ["_law_urn_here", "_law_knows", "_law_sent"]
theorem sc__law_loose : FnScope N__law_loose ["_law_urn_here"] (defScope s__law_loose) := ⟨rfl, rfl, rfl, by decide +kernel, rfl, by decide +kernel, by decide +kernel⟩
theorem abc3 : (∀ x ∈ ([Str.ofString "a", Str.ofString "bb", Str.ofString "c"] : List Str), nameOk x) ∧ Asc [Str.ofString "a", Str.ofString "bb", Str.ofString "c"] := by
  refine ⟨fun x hx => ?_, asc_of _ (by decide +kernel) (by decide +kernel)⟩
  simp only [List.mem_cons, List.not_mem_nil, or_false] at hx
  rcases hx with rfl | rfl | rfl <;> exact nameOk_of (by decide +kernel)
def S__law_loose : DSp := fun ds h k => ∃ u : Nat, ds = [.ref u] ∧ Urn h u ∧ ∀ (f : Fmt) h', OkFmt f → UM u h h' → k f.d h'
abbrev s__law_pair : Stmt := top 39
abbrev N__law_pair : List Str := ["_law_urn_here", "_law_kind_here", "_law_first", "_law_second", "_law_one", "_law_both", "_law_shapes", "_law_alike", "_law_crossed", "_law_old", "_law_new", "_law_extra"]
theorem sc__law_pair : FnScope N__law_pair ["_law_urn_here", "_law_kind_here"] (defScope s__law_pair) := ⟨rfl, rfl, rfl, by decide +kernel, rfl, by decide +kernel, by decide +kernel⟩
theorem pairs4 {x : D} (h : x ∈ ([.tup [.str (Str.ofString "id"), .str (Str.ofString "tag")], .tup [.str (Str.ofString "a"), .str (Str.ofString "z")], .tup [.str (Str.ofString "mm"), .str (Str.ofString "mmm")], .tup [.str (Str.ofString "key"), .str (Str.ofString "value")]] : List D)) :
    ∃ a b : Str, x = .tup [.str a, .str b] ∧ nameOk a ∧ nameOk b ∧ a.cps.toList < b.cps.toList := by
  simp only [List.mem_cons, List.not_mem_nil, or_false] at h
  rcases h with rfl | rfl | rfl | rfl <;> exact ⟨_, _, rfl, nameOk_of (by decide +kernel), nameOk_of (by decide +kernel), ltStr (by decide +kernel)⟩
def kinds8 : List Str := Str.ofString "any" :: kinds7
theorem zzs {x : D} (h : x ∈ ([.tup [], .tup [], .tup [.str (Str.ofString "zz")]] : List D)) : ∃ ex : List Str, x = txs ex ∧ (∀ y ∈ ex, nameOk y) ∧ ex.length ≤ 1 := by
  simp only [List.mem_cons, List.not_mem_nil, or_false] at h
  rcases h with rfl | rfl | rfl
  · exact ⟨[], rfl, fun y hy => (nomatch hy), by decide⟩
  · exact ⟨[], rfl, fun y hy => (nomatch hy), by decide⟩
  · exact ⟨[Str.ofString "zz"], rfl, fun y hy => by rw [List.mem_singleton.mp hy]; exact nameOk_of (by decide +kernel), by simp⟩
def S__law_pair : DSp := fun ds h k => ∃ (u : Nat) (kd : Str), ds = [.ref u, .str kd] ∧ Urn h u ∧ kd ∈ kinds8 ∧ ∀ (f g : Fmt) h', OkFmt f → OkFmt g → UG u h h' → k (.tup [f.d, g.d]) h'
abbrev s__law_names : Stmt := top 37
abbrev N__law_names : List Str := ["_law_urn_here", "_law_count", "_law_stem", "_law_turn", "_law_first", "_law_leap", "_law_letters", "_law_at", "_law_letter"]
theorem sc__law_names : FnScope N__law_names ["_law_urn_here", "_law_count"] (defScope s__law_names) := ⟨rfl, rfl, rfl, by decide +kernel, rfl, by decide +kernel, by decide +kernel⟩
def S__law_names : DSp := fun ds h k => ∃ (u : Nat) (n : Int), ds = [.ref u, .int n] ∧ Urn h u ∧ 0 ≤ n ∧ n ≤ 60 ∧ ∀ (xs : List Str) h', (xs.length : Int) = n → (∀ x ∈ xs, nameOk x) → sortedS xs = true → (n ≤ 26 → xs.Nodup) → UM u h h' → k (.lst (xs.map .str)) h'
theorem abkmz : ∀ c ∈ (Str.ofString "abkmz").cps.toList, 97 ≤ c ∧ c ≤ 122 := by decide +kernel
theorem abc26 : ∀ c ∈ (Str.ofString "abcdefghijklmnopqrstuvwxyz").cps.toList, 97 ≤ c ∧ c ≤ 122 := by decide +kernel
theorem abc26_at : ∀ r : Fin 26, (Str.ofString "abcdefghijklmnopqrstuvwxyz").cps.toList[r.val]? = some (97 + r.val) := by decide +kernel
theorem abc26_len : (Str.ofString "abcdefghijklmnopqrstuvwxyz").cps.toList.length = 26 := by decide +kernel
abbrev s__law_system : Stmt := top 42
abbrev N__law_system : List Str := ["_law_urn_here", "_law_most", "_law_lines", "_law_kinds_here", "_law_homes", "_law_found", "_law_names_here", "_law_label", "_law_ends"]
theorem sc__law_system : FnScope N__law_system ["_law_urn_here", "_law_most", "_law_lines", "_law_kinds_here"] (defScope s__law_system) := ⟨rfl, rfl, rfl, by decide +kernel, rfl, by decide +kernel, by decide +kernel⟩
def S__law_system : DSp := fun ds h k => ∃ (u : Nat) (most lines : Int) (kinds : List Str), ds = [.ref u, .int most, .int lines, .lst (kinds.map .str)] ∧ Urn h u ∧ 1 ≤ most ∧ most ≤ 12 ∧ 0 ≤ lines ∧ lines ≤ 100 ∧ 0 < kinds.length ∧ kinds.length ≤ 100 ∧ (∀ x ∈ kinds, x ∈ kinds8) ∧
  ∀ (svc : List Str) (cs : List Chan) h', OkSys svc cs → (cs.length : Int) ≤ lines → cs.length ≤ 26 → UG u h h' → k (.tup [txs svc, chsD cs]) h'
abbrev s__law_made : Stmt := top 49
abbrev N__law_made : List Str := ["_law_urn_here", "_law_most", "_law_channels", "_law_kinds_here", "_law_services", "_law_links"]
theorem sc__law_made : FnScope N__law_made ["_law_urn_here", "_law_most", "_law_channels", "_law_kinds_here"] (defScope s__law_made) := ⟨rfl, rfl, rfl, by decide +kernel, rfl, by decide +kernel, by decide +kernel⟩
def S__law_made : DSp := fun ds h k => ∃ (u : Nat) (most lines : Int) (kinds : List Str), ds = [.ref u, .int most, .int lines, .lst (kinds.map .str)] ∧ Urn h u ∧ 1 ≤ most ∧ most ≤ 12 ∧ 0 ≤ lines ∧ lines ≤ 100 ∧ 0 < kinds.length ∧ kinds.length ≤ 100 ∧ (∀ x ∈ kinds, x ∈ kinds8) ∧
  ∀ (svc : List Str) (cs : List Chan) n h', OkSys svc cs → (cs.length : Int) ≤ lines → cs.length ≤ 26 → UG u h h' → h.length ≤ n → SysAt h' n svc cs → k (.tup [txs svc, chsD cs, .ref n]) h'
abbrev s__law_kinds : Stmt := top 43
abbrev N__law_kinds : List Str := []
theorem sc__law_kinds : FnScope N__law_kinds [] (defScope s__law_kinds) := ⟨rfl, rfl, rfl, by decide +kernel, rfl, by decide +kernel, by decide +kernel⟩
def kindsL : List Str := ["reader first", "reader first", "writer first", "writer first", "split", "free", "same", "writer", "reader", "any", "any"]
def S__law_kinds : DSp := fun ds h k => ds = [] ∧ k (.lst (kindsL.map .str)) h
abbrev s__law_right : Stmt := top 50
abbrev N__law_right : List Str := ["_law_urn_here", "_law_services", "_law_links", "_law_system_here"]
theorem sc__law_right : FnScope N__law_right ["_law_urn_here"] (defScope s__law_right) := ⟨rfl, rfl, rfl, by decide +kernel, rfl, by decide +kernel, by decide +kernel⟩
theorem kindsL8 : ∀ x ∈ kindsL, x ∈ kinds8 := by decide +kernel
def S__law_right : DSp := fun ds h k => ∃ (u : Nat), ds = [.ref u] ∧ Urn h u ∧ ∀ h', UG u h h' → k (.bl true) h'
abbrev s__law_urn : Stmt := top 34
abbrev N__law_urn : List Str := ["_law_script", "_law_k", "_law_cell", "_law_own"]
theorem sc__law_urn : FnScope N__law_urn ["_law_script", "_law_k"] (defScope s__law_urn) := ⟨rfl, rfl, rfl, by decide +kernel, rfl, by decide +kernel, by decide +kernel⟩
def S__law_urn : DSp := fun ds h k => ∃ (ns : List Int) (i : Int), ds = [.rol (ns.map .int), .int i] ∧ 0 ≤ i ∧ i ≤ 100 ∧ ∀ h', h'.length = h.length + 1 → (∀ j, j < h.length → h'[j]? = h[j]?) → Urn h' h.length → k (.ref h.length) h'
abbrev s_law : Stmt := top 51
abbrev N_law : List Str := ["_law_script", "_law_k", "_law_urn_here", "_law_turn"]
theorem sc_law : FnScope N_law ["_law_script"] (defScope s_law) := ⟨rfl, rfl, rfl, by decide +kernel, rfl, by decide +kernel, by decide +kernel⟩
def S_law : DSp := fun ds h k => ∃ ns : List Int, ds = [.rol (ns.map .int)] ∧ ∀ h', k (.bl true) h'
end
end K21

namespace K21
open PySem PySem.Spec PyProof.Rows L2 Vf
section
variable {P : Program} {w : World} {K : PySem.W.Frag} {mg : Str → Option Value} {base : Heap}
theorem ok_neighbours (T : Txt K w mg) {f : Addr} {fd : FuncData} (F : Fun K "neighbours" "neighbours" s_neighbours f fd) (hm : mg "neighbours" = some (.ref f)) : DFn P w K mg base 1 "neighbours" "neighbours" s_neighbours ["chains"] S_neighbours := by
  refine dfn_of F hm sc_neighbours fun cdv A ou s H E hg hr => ⟨_, (ds_one (ds_ret (de_lc2 (own := [("chain", 1), ("pair", 2)]) (T := (.n 1)) (T1 := (.n 2)) (vs1 := [2]) rfl sc_neighbours.nd (di_seq (de_var (pv 0))) (blkOk_by (N := N_neighbours) (sc := defScope s_neighbours) (by decide +kernel)) (by decide) (by decide) (by decide) (fun _ _ _ _ _ => (pg_n 1 sc_neighbours.nd)) (fun _ _ _ _ _ => dts_nil) (fun _ _ _ _ _ => (di_zipN rfl T.zip (da_cons (de_var (pv 1)) (da_cons (de_slice (de_var (pv 1)) (do_some de_int) do_none) da_nil rfl) rfl))) (fun _ _ _ _ _ => (pg_n 2 sc_neighbours.nd)) (fun _ _ _ _ _ => dts_nil) (fun _ _ _ _ _ => (de_var (pv 2)))))), fun ds h k hl hS => ?_⟩
  obtain ⟨svc, cs, rfl, ok, q⟩ := hS
  have l40 := ok.l40
  have lnb := nbL_len cs
  refine ⟨_, rfl, _, rfl, ?_⟩
  rw [chP_D]
  refine lc2_walk (f := chPD) (ys := nbOf) (g := nbD) trivial (fun p hp k' hk' => ⟨_, rfl, _, rfl, 1, rfl, _, _, rfl, ?_⟩) (fun p hp x hx k' hk' => ⟨_, rfl, hk'⟩) (szl (by show 0 + (nbL cs).length ≤ _; omega)) (by rw [List.nil_append]; exact q)
  rw [cut_one, ← List.map_drop, nb_zip]
  exact hk'
theorem ok_chain_edges (T : Txt K w mg) (C_neighbours : DFn P w K mg base 1 "neighbours" "neighbours" s_neighbours ["chains"] S_neighbours) {f : Addr} {fd : FuncData} (F : Fun K "chain_edges" "chain_edges" s_chain_edges f fd) (hm : mg "chain_edges" = some (.ref f)) : DFn P w K mg base 2 "chain_edges" "chain_edges" s_chain_edges ["chains"] S_chain_edges := by
  refine dfn_of F hm sc_chain_edges fun cdv A ou s H E hg hr => ⟨_, (ds_cons (ds_setLc 1 (own := [("first", 2), ("second", 3)]) (T := (.t [(.n 2), (.n 3)])) rfl sc_chain_edges.nd (di_seq (de_call C_neighbours hg hr (by decide) (fun _ _ _ _ _ _ us hl => match us, hl with | [_], _ => rfl) (da_cons (de_var (pv 0)) da_nil rfl))) (blkOk_by (N := N_chain_edges) (sc := defScope s_chain_edges) (by decide +kernel)) (by decide) (fun _ _ _ _ _ => (pg_t rfl (pgs_c (pg_n 2 sc_chain_edges.nd) (pgs_c (pg_n 3 sc_chain_edges.nd) pgs_n)))) (fun _ _ _ _ _ => dts_nil) (fun _ _ _ _ _ => (de_tup (da_cons (de_ix (de_var (pv 2)) de_int) (da_cons (de_ix (de_var (pv 3)) de_int) da_nil rfl) rfl)))) (ds_one (ds_ret (de_callTy ol_tuple rfl T.tuple (by decide +kernel) (da_cons (de_sortSc (own := [("start", 4), ("end", 5)]) (T := (.t [(.n 4), (.n 5)])) rfl hr rfl T.sorted sc_chain_edges.nd (di_seq (de_var (pv 1))) (blkOk_by (N := N_chain_edges) (sc := defScope s_chain_edges) (by decide +kernel)) (by decide) (fun _ _ _ _ _ => (pg_t rfl (pgs_c (pg_n 4 sc_chain_edges.nd) (pgs_c (pg_n 5 sc_chain_edges.nd) pgs_n)))) (fun _ _ _ _ _ => (dts_one (dt_cmp (op2_ne hr) (de_var (pv 4)) (de_var (pv 5))))) (fun _ _ _ _ _ => (de_tup (da_cons (de_var (pv 4)) (da_cons (de_var (pv 5)) da_nil rfl) rfl)))) da_nil rfl))))), fun ds h k hl hS => ?_⟩
  obtain ⟨svc, cs, rfl, ok, l26, q⟩ := hS
  have ln := nbL_len2 cs
  with_reducible refine seq_cut (fun ρ' h' => h = h' ∧ ρ' = [some (.lst (chainsD cs)), some (.lst ((nbEs cs).map stepD)), none, none, none, none]) ?_ ?_
  rotate_left
  · intro nx hnx
    refine ⟨_, rfl, rfl, svc, cs, rfl, ok, _, rfl, lc_mapAT (f := nbD) (g := fun x => stepD (nbE x)) trivial (fun x hx => ⟨_, rfl, fun k' hk' => ⟨_, rfl, _, rfl, _, rfl, _, rfl, szl (by simp), hk'⟩⟩) (szl (by omega)) ?_⟩
    refine hnx _ _ ⟨rfl, ?_⟩
    unfold nbEs
    rw [List.map_map]; rfl
  rintro ρ' h' ⟨rfl, rfl⟩
  refine ⟨_, rfl, _, rfl, ?_⟩
  refine sc_pairs (p := unl) (acc := []) trivial (fun x hx => ⟨_, rfl, fun k' hk' => ⟨_, rfl, _, rfl, .inr trivial, _, rfl, ?_⟩, fun _ k' hk' => ⟨_, rfl, _, rfl, szl (by simp), hk'⟩⟩) (by unfold nbEs; simp; omega) ?_
  · rw [dEq_str]; exact hk'
  · intro l pl
    obtain ⟨so, e⟩ := sorted_pairs (allE_nodup List.nodup_nil) pl
    refine ⟨so, .inr ⟨_, rfl, ?_⟩⟩
    rw [e]; exact q
theorem ok_has_all (T : Txt K w mg) {f : Addr} {fd : FuncData} (F : Fun K "has_all" "has_all" s_has_all f fd) (hm : mg "has_all" = some (.ref f)) : DFn P w K mg base 1 "has_all" "has_all" s_has_all ["fields", "wanted"] S_has_all := by
  refine dfn_of F hm sc_has_all fun cdv A ou s H E hg hr => ⟨_, (ds_one (ds_ret (de_callB (ol_all rfl) rfl T.all (by decide +kernel) (da_cons (de_lc (own := [("field", 2)]) (T := (.n 2)) rfl sc_has_all.nd (di_seq (de_var (pv 1))) (blkOk_by (N := N_has_all) (sc := defScope s_has_all) (by decide +kernel)) (by decide) (fun _ _ _ _ _ => (pg_n 2 sc_has_all.nd)) (fun _ _ _ _ _ => dts_nil) (fun _ _ _ _ _ => (de_cmp (op2_in hr) (de_var (pv 2)) (de_var (pv 0))))) da_nil rfl)))), fun ds h k hl hS => ?_⟩
  obtain ⟨fs, ws, rfl, hf, hw, hz, q⟩ := hS
  refine ⟨_, rfl, _, rfl, lc_pure (g := fun x => match x with | .str x => .bl (decide (x ∈ fs)) | _ => .non) trivial ?_ (szl (by simp; omega)) ?_⟩
  · intro x hx k' hk'
    obtain ⟨y, hy, rfl⟩ := List.mem_map.mp hx
    refine ⟨_, rfl, _, rfl, ⟨dat_str (hw y hy), dat_strs hf⟩, ?_⟩
    rw [inD_strs]
    exact hk'
  · refine ⟨ws.map fun x => decide (x ∈ fs), ?_, ?_⟩
    · simp
    · simpa using q
theorem ok_accepts (T : Txt K w mg) (C_has_all : DFn P w K mg base 1 "has_all" "has_all" s_has_all ["fields", "wanted"] S_has_all) {f : Addr} {fd : FuncData} (F : Fun K "accepts" "accepts" s_accepts f fd) (hm : mg "accepts" = some (.ref f)) : DFn P w K mg base 2 "accepts" "accepts" s_accepts ["reader", "written"] S_accepts := by
  refine dfn_of F hm sc_accepts fun cdv A ou s H E hg hr => ⟨_, (ds_cons (ds_asg (de_var (pv 0)) (dg_tup rfl (dgs_cons (dg_name 2 sc_accepts.nd) (dgs_cons (dg_name 3 sc_accepts.nd) dgs_nil)))) (ds_one (ds_ret (de_and (de_call C_has_all hg hr (by decide) (fun _ _ _ _ _ _ us hl => match us, hl with | [_, _], _ => rfl) (da_cons (de_var (pv 1)) (da_cons (de_var (pv 2)) da_nil rfl) rfl)) (de_one (de_call C_has_all hg hr (by decide) (fun _ _ _ _ _ _ us hl => match us, hl with | [_, _], _ => rfl) (da_cons (de_var (pv 3)) (da_cons (de_var (pv 1)) da_nil rfl) rfl))))))), fun ds h k hl hS => ?_⟩
  obtain ⟨a, b, c, rfl, ha, hb, hc, q⟩ := hS
  have la := ha.1
  have lc := hc.1
  refine ⟨_, rfl, _, rfl, rfl, _, _, rfl, _, _, rfl, rfl, _, rfl, _, rfl, rfl, c, a, rfl, hc.s, ha.s, by omega, _, rfl, ?_⟩
  cases hx : (a.all fun x => decide (x ∈ c)) with
  | false =>
    rw [if_neg (by decide)]
    have e : acc a b c = false := by unfold acc; rw [hx]; rfl
    rw [e] at q; exact q
  | true =>
    rw [if_pos rfl]
    refine ⟨_, rfl, _, rfl, rfl, b, c, rfl, hb.s, hc.s, by omega, ?_⟩
    have e : acc a b c = c.all fun x => decide (x ∈ b) := by unfold acc; rw [hx]; rfl
    rw [e] at q; exact q
theorem ok_channel_kind (T : Txt K w mg) (C_accepts : DFn P w K mg base 2 "accepts" "accepts" s_accepts ["reader", "written"] S_accepts) {f : Addr} {fd : FuncData} (F : Fun K "channel_kind" "channel_kind" s_channel_kind f fd) (hm : mg "channel_kind" = some (.ref f)) : DFn P w K mg base 3 "channel_kind" "channel_kind" s_channel_kind ["channel"] S_channel_kind := by
  refine dfn_of F hm sc_channel_kind fun cdv A ou s H E hg hr => ⟨_, (ds_cons (ds_set 1 sc_channel_kind.nd (de_ix (de_var (pv 0)) de_int)) (ds_cons (ds_set 2 sc_channel_kind.nd (de_ix (de_var (pv 0)) de_int)) (ds_cons (ds_set 3 sc_channel_kind.nd (de_call C_accepts hg hr (by decide) (fun _ _ _ _ _ _ us hl => match us, hl with | [_, _], _ => rfl) (da_cons (de_slice (de_var (pv 1)) (do_some de_int) do_none) (da_cons (de_ix (de_var (pv 2)) de_int) da_nil rfl) rfl))) (ds_cons (ds_set 4 sc_channel_kind.nd (de_call C_accepts hg hr (by decide) (fun _ _ _ _ _ _ us hl => match us, hl with | [_, _], _ => rfl) (da_cons (de_slice (de_var (pv 2)) (do_some de_int) do_none) (da_cons (de_ix (de_var (pv 1)) de_int) da_nil rfl) rfl))) (ds_cons (ds_if (DW.dt (dw_and (dt_val (de_var (pv 3))) (dw_and1 (dt_val (de_var (pv 4)))))) (ds_one (ds_ret de_str)) ds_nil) (ds_cons (ds_if (dt_val (de_var (pv 4))) (ds_one (ds_ret de_str)) ds_nil) (ds_cons (ds_if (dt_val (de_var (pv 3))) (ds_one (ds_ret de_str)) ds_nil) (ds_one (ds_ret de_str))))))))), fun ds h k hl hS => ?_⟩
  obtain ⟨c, rfl, ho, hn, q⟩ := hS
  refine ⟨_, rfl, _, rfl, ?_⟩
  refine ⟨_, rfl, _, rfl, ?_⟩
  refine ⟨_, rfl, _, rfl, _, rfl, _, rfl, rfl, c.old.nd, c.old.kn, c.new.wr, rfl, ho.nd.okN, ho.kn.okN, hn.wr.okN, ?_⟩
  refine ⟨_, rfl, _, rfl, _, rfl, _, rfl, rfl, c.new.nd, c.new.kn, c.old.wr, rfl, hn.nd.okN, hn.kn.okN, ho.wr.okN, ?_⟩
  have e1 : acc c.old.nd c.old.kn c.new.wr = c.ona := rfl
  have e2 : acc c.new.nd c.new.kn c.old.wr = c.nao := rfl
  rw [e1, e2]
  unfold Chan.kind at q
  refine ⟨_, rfl, _, rfl, ?_⟩
  cases h1 : c.ona <;> cases h2 : c.nao <;> rw [h1, h2] at q
  · exact ifF rfl (ifF rfl ⟨_, rfl, _, rfl, ifF rfl ⟨_, rfl, _, rfl, ifF rfl q⟩⟩)
  · exact ifF rfl (ifF rfl ⟨_, rfl, _, rfl, ifT rfl q⟩)
  · exact ifT rfl ⟨_, rfl, _, rfl, ifF rfl ⟨_, rfl, _, rfl, ifF rfl ⟨_, rfl, _, rfl, ifT rfl q⟩⟩⟩
  · exact ifT rfl ⟨_, rfl, _, rfl, ifT rfl q⟩
theorem ok_channel_words (T : Txt K w mg) (C_channel_kind : DFn P w K mg base 3 "channel_kind" "channel_kind" s_channel_kind ["channel"] S_channel_kind) {f : Addr} {fd : FuncData} (F : Fun K "channel_words" "channel_words" s_channel_words f fd) (hm : mg "channel_words" = some (.ref f)) : DFn P w K mg base 4 "channel_words" "channel_words" s_channel_words ["channel"] S_channel_words := by
  refine dfn_of F hm sc_channel_words fun cdv A ou s H E hg hr => ⟨_, (ds_cons (ds_set 1 sc_channel_words.nd (de_call C_channel_kind hg hr (by decide) (fun _ _ _ _ _ _ us hl => match us, hl with | [_], _ => rfl) (da_cons (de_var (pv 0)) da_nil rfl))) (ds_cons (ds_if (dt_cmp (op2_ne hr) (de_var (pv 1)) de_str) (ds_one (ds_ret (de_lst (da_cons (de_kix T.tab_ORDERED_WORDS rfl (de_var (pv 1))) da_nil rfl)))) ds_nil) (ds_cons (ds_set 2 sc_channel_words.nd (de_ix (de_var (pv 0)) de_int)) (ds_cons (ds_set 3 sc_channel_words.nd (de_ix (de_var (pv 0)) de_int)) (ds_cons (ds_set 4 sc_channel_words.nd (de_if (dt_cmp (op2_ne hr) (de_ix (de_var (pv 2)) de_int) (de_ix (de_var (pv 3)) de_int)) (de_lst (da_cons (de_tup (da_cons de_str da_nil rfl)) da_nil rfl)) (de_lst da_nil))) (ds_cons (ds_set 5 sc_channel_words.nd (de_if (dt_cmp (op2_ne hr) (de_slice (de_var (pv 2)) (do_some de_int) do_none) (de_slice (de_var (pv 3)) (do_some de_int) do_none)) (de_lst (da_cons (de_tup (da_cons de_str da_nil rfl)) da_nil rfl)) (de_lst da_nil))) (ds_one (ds_ret (de_bin op2_add (de_var (pv 4)) (de_var (pv 5))))))))))), fun ds h k hl hS => ?_⟩
  obtain ⟨c, rfl, ho, hn, q⟩ := hS
  refine ⟨_, rfl, rfl, c, rfl, ho, hn, ?_⟩
  refine ⟨_, rfl, .inr trivial, _, rfl, ?_⟩
  rw [dEq_str]
  have kn := kinds_ne
  rcases c.kind4 with e | e | e | e
  · refine ifF (by rw [e]; decide +kernel) ?_
    rw [Chan.wl_free e] at q
    refine ⟨_, rfl, _, rfl, ?_⟩
    refine ⟨_, rfl, _, rfl, ?_⟩
    refine ⟨_, rfl, _, rfl, _, rfl, _, rfl, .inl ⟨ho.wr.sm.dat, hn.wr.sm.dat⟩, _, rfl, ?_⟩
    rw [dEq_txs]
    have rd : ∀ sw : List D, (∀ rr : List D, rr = (if c.old.nd = c.new.nd ∧ c.old.kn = c.new.kn then [] else [[wRead]]).map txs → k (.lst (sw ++ rr)) h) → sw.length ≤ 2 → wSeq (wSet 5 (wIf (wBl (wBin wNe (fun ρ h k => wVar 2 ρ h fun d h1 => (fun ρ h k => wC (.int 1) ρ h fun d h1 => ∃ i, d = .int i ∧ k (some i) h1) ρ h1 fun l h2 => (fun _ h k => k none h) ρ h2 fun u h3 => wSl d l u h3 k) (fun ρ h k => wVar 3 ρ h fun d h1 => (fun ρ h k => wC (.int 1) ρ h fun d h1 => ∃ i, d = .int i ∧ k (some i) h1) ρ h1 fun l h2 => (fun _ h k => k none h) ρ h2 fun u h3 => wSl d l u h3 k))) (wLst (wCons (wTup (wCons (wC (.str (Str.ofString "read"))) wNil)) wNil)) (wLst wNil))) (wRet (wBin wAdd (wVar 4) (wVar 5))) { nx := fun _ h => k .non h, rt := k } [some c.d, some (.str c.kind), some c.old.d, some c.new.d, some (.lst sw), none] h := by
      intro sw hq hl
      refine ⟨_, rfl, _, rfl, _, rfl, _, rfl, .inl ⟨ho.smR.dat, hn.smR.dat⟩, _, rfl, ?_⟩
      have er : dEq c.old.rd c.new.rd = decide (c.old.nd = c.new.nd ∧ c.old.kn = c.new.kn) := by
        rw [Bool.eq_iff_iff, dEq_iff (Fmt.rd_pln _) (Fmt.rd_pln _), decide_eq_true_eq]
        exact ⟨fun e => Fmt.rd_inj e, fun e => by unfold Fmt.rd; rw [e.1, e.2]⟩
      show (if (!dEq c.old.rd c.new.rd) = true then _ else _)
      rw [er]
      by_cases e2 : c.old.nd = c.new.nd ∧ c.old.kn = c.new.kn
      · rw [if_neg (by simp [e2])]
        exact ⟨szl (by simp), _, rfl, _, rfl, szl (by simp; omega), hq _ (by rw [if_pos e2]; rfl)⟩
      · rw [if_pos (by simp [e2])]
        exact ⟨szl (by simp), szl (by simp), _, rfl, _, rfl, szl (by simp; omega), hq _ (by rw [if_neg e2]; rfl)⟩
    by_cases e1 : c.old.wr = c.new.wr
    · refine ifF (by simp [e1]) ⟨szl (by simp), rd [] (fun rr er => ?_) (by simp)⟩
      rw [if_pos e1] at q
      rw [er]; exact q
    · refine ifT (by simp [e1]) ⟨szl (by simp), szl (by simp), rd [txs [wSwitch]] (fun rr er => ?_) (by simp)⟩
      rw [if_neg e1] at q
      rw [er, ← List.singleton_append] ; rw [List.map_append] at q; exact q
  · unfold Chan.words at q
    rw [if_pos e] at q
    refine ifT (by rw [e]; decide +kernel) ⟨_, rfl, 0, kReader, _, by rw [e], rfl, rfl, szl (by simp), q⟩
  · unfold Chan.words at q
    rw [if_neg (by rw [e]; exact kn.2.2.2.1.symm), if_pos e] at q
    refine ifT (by rw [e]; decide +kernel) ⟨_, rfl, 1, kWriter, _, by rw [e], rfl, rfl, szl (by simp), q⟩
  · unfold Chan.words at q
    rw [if_neg (by rw [e]; exact kn.2.2.2.2.1.symm), if_neg (by rw [e]; exact kn.2.2.2.2.2.symm), if_pos e] at q
    refine ifT (by rw [e]; decide +kernel) ⟨_, rfl, 2, kSplit, _, by rw [e], rfl, rfl, szl (by simp), q⟩
theorem ok_word_owner (T : Txt K w mg) {f : Addr} {fd : FuncData} (F : Fun K "word_owner" "word_owner" s_word_owner f fd) (hm : mg "word_owner" = some (.ref f)) : DFn P w K mg base 1 "word_owner" "word_owner" s_word_owner ["channel", "word"] S_word_owner := by
  refine dfn_of F hm sc_word_owner fun cdv A ou s H E hg hr => ⟨_, (ds_one (ds_ret (de_if (dt_cmp (op2_eq hr) (de_var (pv 1)) de_str) (de_ix (de_var (pv 0)) de_int) (de_ix (de_var (pv 0)) de_int)))), fun ds h k hl hS => ?_⟩
  obtain ⟨c, w, rfl, q⟩ := hS
  refine ⟨_, rfl, .inr trivial, _, rfl, ?_⟩
  rw [dEq_str]
  unfold Chan.own at q
  by_cases e : w = wSwitch
  · rw [if_pos e] at q
    exact ifT (decide_eq_true e) ⟨_, rfl, _, rfl, q⟩
  · rw [if_neg e] at q
    exact ifF (decide_eq_false e) ⟨_, rfl, _, rfl, q⟩
theorem ok_all_chains (T : Txt K w mg) (C_channel_words : DFn P w K mg base 4 "channel_words" "channel_words" s_channel_words ["channel"] S_channel_words) (C_word_owner : DFn P w K mg base 1 "word_owner" "word_owner" s_word_owner ["channel", "word"] S_word_owner) {f : Addr} {fd : FuncData} (F : Fun K "all_chains" "all_chains" s_all_chains f fd) (hm : mg "all_chains" = some (.ref f)) : DFn P w K mg base 5 "all_chains" "all_chains" s_all_chains ["system"] S_all_chains := by
  refine dfn_of F hm sc_all_chains fun cdv A ou s H E hg hr => ⟨_, (ds_one (ds_ret (de_lc2 (own := [("channel", 1), ("words", 2)]) (T := (.n 1)) (T1 := (.n 2)) (vs1 := [2]) rfl sc_all_chains.nd (di_seq (de_attr T.cf_System (by decide +kernel) (de_var (pv 0)))) (blkOk_by (N := N_all_chains) (sc := defScope s_all_chains) (by decide +kernel)) (by decide) (by decide) (by decide) (fun _ _ _ _ _ => (pg_n 1 sc_all_chains.nd)) (fun _ _ _ _ _ => dts_nil) (fun _ _ _ _ _ => (di_seq (de_call C_channel_words hg hr (by decide) (fun _ _ _ _ _ _ us hl => match us, hl with | [_], _ => rfl) (da_cons (de_var (pv 1)) da_nil rfl)))) (fun _ _ _ _ _ => (pg_n 2 sc_all_chains.nd)) (fun _ _ _ _ _ => dts_nil) (fun _ _ _ _ _ => (de_callTy ol_tuple rfl T.tuple (by decide +kernel) (da_cons (de_lc (own := [("word", 3)]) (T := (.n 3)) rfl sc_all_chains.nd (di_seq (de_var (pv 2))) (blkOk_by (N := N_all_chains) (sc := relS (lcScope (retE ((defBody s_all_chains).getD 0 (.Pass ⟨0, 0, 0, 0⟩)))) (defScope s_all_chains)) (by decide +kernel)) (by decide) (fun _ _ _ _ _ => (pg_n 3 sc_all_chains.nd)) (fun _ _ _ _ _ => dts_nil) (fun _ _ _ _ _ => (de_tup (da_cons (de_call C_word_owner hg hr (by decide) (fun _ _ _ _ _ _ us hl => match us, hl with | [_, _], _ => rfl) (da_cons (de_var (pv 1)) (da_cons (de_var (pv 3)) da_nil rfl) rfl)) (da_cons (de_tup (da_cons (de_ix (de_var (pv 1)) de_int) (da_cons (de_var (pv 3)) da_nil rfl) rfl)) da_nil rfl) rfl)))) da_nil rfl)))))), fun ds h k hl hS => ?_⟩
  obtain ⟨i, svc, cs, rfl, hi, ho, q⟩ := hS
  have l40 := ho.l40
  have lch := chains_len cs
  refine ⟨_, rfl, _, _, _, _, rfl, hi, rfl, _, rfl, ?_⟩
  have key : ∀ (cs' : List Chan) (acc : List D) (fin : List D → DH → Prop), (∀ c ∈ cs', c ∈ cs) → acc.length + (chainsD cs').length ≤ 100 → fin (acc ++ chainsD cs') h → lcGo2 (.n 1) wYes (wIter (wCall 1 S_channel_words (wCons (wVar 1) wNil))) (.n 2) wYes (wApp wTupleOf (wCons (wLc (wIter (wVar 2)) (.n 3) wYes (wTup (wCons (wCall 2 S_word_owner (wCons (wVar 1) (wCons (wVar 3) wNil))) (wCons (wTup (wCons (wBin wIx (wVar 1) (wC (.int 0))) (wCons (wVar 3) wNil))) wNil))) [3]) wNil)) [2] (fun _ => True) [some (.ref i), none, none, none] fin (cs'.map Chan.d) acc h := by
    intro cs'
    induction cs' with
    | nil => intro acc fin _ _ hf; exact ⟨trivial, by simpa [chainsD] using hf⟩
    | cons c cs' ih =>
      intro acc fin hsub hl hf
      have oc := ho.ch c (hsub c List.mem_cons_self)
      have wl := c.words_len
      have e0 : chainsD (c :: cs') = c.words.map (chainD c) ++ chainsD cs' := by unfold chainsD; rw [List.flatMap_cons]
      rw [e0] at hf hl
      rw [List.length_append, List.length_map] at hl
      refine ⟨trivial, _, rfl, ?_⟩
      refine ⟨_, rfl, rfl, c, rfl, oc.old, oc.new, _, rfl, ?_⟩
      refine lc_pure (g := fun x => match x with | .tup ws => .tup (ws.map fun w => match w with | .str w => partD c w | _ => .non) | _ => .non) trivial ?_ (szl (by simp; omega)) ?_
      · intro y hy k' hk'
        obtain ⟨ws, hw, rfl⟩ := List.mem_map.mp hy
        have lw := (wl.2 ws hw).1
        refine ⟨_, rfl, _, rfl, lc_pure (g := fun w => match w with | .str w => partD c w | _ => .non) trivial ?_ (szl (by simp; omega)) (.inr ⟨_, rfl, by simpa [txs] using hk'⟩)⟩
        intro z hz k'' hk''
        obtain ⟨w, _, rfl⟩ := List.mem_map.mp hz
        exact ⟨_, rfl, _, rfl, rfl, c, w, rfl, _, rfl, _, rfl, _, rfl, szl (by simp), szl (by simp), hk''⟩
      · refine ih _ fin (fun d hd => hsub d (List.mem_cons_of_mem _ hd)) ?_ ?_
        · rw [List.length_append, List.length_map, List.length_map]; omega
        · rw [List.append_assoc]
          have e1 : (c.words.map txs).map (fun x => match x with | .tup ws => .tup (ws.map fun w => match w with | .str w => partD c w | _ => .non) | _ => D.non) = c.words.map (chainD c) := by
            rw [List.map_map]
            refine List.map_congr_left fun ws _ => ?_
            show D.tup ((ws.map D.str).map _) = D.tup (ws.map (partD c))
            rw [List.map_map]; rfl
          rw [e1]; exact hf
  exact key cs [] _ (fun c hc => hc) (by simp; omega) (by simpa using q)
theorem ok_edges (T : Txt K w mg) (C_chain_edges : DFn P w K mg base 2 "chain_edges" "chain_edges" s_chain_edges ["chains"] S_chain_edges) (C_all_chains : DFn P w K mg base 5 "all_chains" "all_chains" s_all_chains ["system"] S_all_chains) {f : Addr} {fd : FuncData} (F : Fun K "edges" "edges" s_edges f fd) (hm : mg "edges" = some (.ref f)) : DFn P w K mg base 6 "edges" "edges" s_edges ["system"] S_edges := by
  refine dfn_of F hm sc_edges fun cdv A ou s H E hg hr => ⟨_, (ds_one (ds_ret (de_call C_chain_edges hg hr (by decide) (fun _ _ _ _ _ _ us hl => match us, hl with | [_], _ => rfl) (da_cons (de_call C_all_chains hg hr (by decide) (fun _ _ _ _ _ _ us hl => match us, hl with | [_], _ => rfl) (da_cons (de_var (pv 0)) da_nil rfl)) da_nil rfl)))), fun ds h k hl hS => ?_⟩
  obtain ⟨i, svc, cs, rfl, hi, ok, l26, q⟩ := hS
  exact ⟨_, rfl, rfl, i, svc, cs, rfl, hi, ok, rfl, svc, cs, rfl, ok, l26, q⟩
theorem ok__law_reads (T : Txt K w mg) {f : Addr} {fd : FuncData} (F : Fun K "_law_reads" "_law_reads" s__law_reads f fd) (hm : mg "_law_reads" = some (.ref f)) : DFn P w K mg base 1 "_law_reads" "_law_reads" s__law_reads ["_law_eye", "_law_sent"] S__law_reads := by
  refine dfn_of F hm sc__law_reads fun cdv A ou s H E hg hr => ⟨_, (ds_one (ds_ret (de_and (de_callB (ol_all rfl) rfl T.all (by decide +kernel) (da_cons (de_lc (own := [("_law_field", 2)]) (T := (.n 2)) rfl sc__law_reads.nd (di_seq (de_ix (de_var (pv 0)) de_int)) (blkOk_by (N := N__law_reads) (sc := defScope s__law_reads) (by decide +kernel)) (by decide) (fun _ _ _ _ _ => (pg_n 2 sc__law_reads.nd)) (fun _ _ _ _ _ => dts_nil) (fun _ _ _ _ _ => (de_cmp (op2_in hr) (de_var (pv 2)) (de_var (pv 1))))) da_nil rfl)) (de_one (de_callB (ol_all rfl) rfl T.all (by decide +kernel) (da_cons (de_lc (own := [("_law_field", 2)]) (T := (.n 2)) rfl sc__law_reads.nd (di_seq (de_var (pv 1))) (blkOk_by (N := N__law_reads) (sc := defScope s__law_reads) (by decide +kernel)) (by decide) (fun _ _ _ _ _ => (pg_n 2 sc__law_reads.nd)) (fun _ _ _ _ _ => dts_nil) (fun _ _ _ _ _ => (de_cmp (op2_in hr) (de_var (pv 2)) (de_ix (de_var (pv 0)) de_int)))) da_nil rfl)))))), fun ds h k hl hS => ?_⟩
  obtain ⟨a, b, c, rfl, ha, hb, hc, q⟩ := hS
  have la := ha.1
  have lc := hc.1
  refine ⟨_, rfl, _, atI_zero _ _, _, rfl, all_in (fs := c) trivial (by omega) ?_ ⟨_, rfl, _, rfl, ?_⟩⟩
  · intro y hy k' hk'
    refine ⟨_, rfl, _, rfl, ⟨dat_str (ha.s y hy), dat_strs hc.s⟩, ?_⟩
    rw [inD_strs]
    exact hk'
  · have e0 : (List.map (fun x => decide (x ∈ c)) a).all id = a.all fun x => decide (x ∈ c) := by simp
    rw [e0]
    cases hx : (a.all fun x => decide (x ∈ c)) with
    | false =>
      refine ifF rfl ?_
      have e : acc a b c = false := by unfold acc; rw [hx]; rfl
      rw [e] at q; exact q
    | true =>
      refine ifT rfl ⟨_, rfl, _, rfl, all_in (fs := b) trivial (by omega) ?_ ⟨_, rfl, ?_⟩⟩
      · intro y hy k' hk'
        refine ⟨_, rfl, _, rfl, _, atI_one _ _ _, ⟨dat_str (hc.s y hy), dat_strs hb.s⟩, ?_⟩
        rw [inD_strs]
        exact hk'
      · have e : acc a b c = c.all fun x => decide (x ∈ b) := by unfold acc; rw [hx]; rfl
        have e1 : (List.map (fun x => decide (x ∈ b)) c).all id = c.all fun x => decide (x ∈ b) := by simp
        rw [e1, ← e]; exact q
theorem ok__law_kind (T : Txt K w mg) (C__law_reads : DFn P w K mg base 1 "_law_reads" "_law_reads" s__law_reads ["_law_eye", "_law_sent"] S__law_reads) {f : Addr} {fd : FuncData} (F : Fun K "_law_kind" "_law_kind" s__law_kind f fd) (hm : mg "_law_kind" = some (.ref f)) : DFn P w K mg base 2 "_law_kind" "_law_kind" s__law_kind ["_law_channel"] S__law_kind := by
  refine dfn_of F hm sc__law_kind fun cdv A ou s H E hg hr => ⟨_, (ds_cons (ds_par 1 2 rfl sc__law_kind.nd (da_cons (de_ix (de_var (pv 0)) de_int) (da_cons (de_ix (de_var (pv 0)) de_int) da_nil rfl) rfl)) (ds_cons (ds_par 3 4 rfl sc__law_kind.nd (da_cons (de_call C__law_reads hg hr (by decide) (fun _ _ _ _ _ _ us hl => match us, hl with | [_, _], _ => rfl) (da_cons (de_slice (de_var (pv 2)) (do_some de_int) do_none) (da_cons (de_ix (de_var (pv 1)) de_int) da_nil rfl) rfl)) (da_cons (de_call C__law_reads hg hr (by decide) (fun _ _ _ _ _ _ us hl => match us, hl with | [_, _], _ => rfl) (da_cons (de_slice (de_var (pv 1)) (do_some de_int) do_none) (da_cons (de_ix (de_var (pv 2)) de_int) da_nil rfl) rfl)) da_nil rfl) rfl)) (ds_cons (ds_if (dt_val (de_var (pv 3))) (ds_one (ds_ret (de_if (dt_val (de_var (pv 4))) de_str de_str))) ds_nil) (ds_one (ds_ret (de_if (dt_val (de_var (pv 4))) de_str de_str)))))), fun ds h k hl hS => ?_⟩
  obtain ⟨c, rfl, ho, hn, q⟩ := hS
  refine ⟨_, rfl, _, rfl, _, rfl, _, rfl, _, _, rfl, ?_⟩
  refine ⟨_, rfl, _, rfl, _, rfl, _, rfl, rfl, c.new.nd, c.new.kn, c.old.wr, rfl, hn.nd.okN, hn.kn.okN, ho.wr.okN, ?_⟩
  refine ⟨_, rfl, _, rfl, _, rfl, _, rfl, rfl, c.old.nd, c.old.kn, c.new.wr, rfl, ho.nd.okN, ho.kn.okN, hn.wr.okN, _, _, rfl, ?_⟩
  have e1 : acc c.old.nd c.old.kn c.new.wr = c.ona := rfl
  have e2 : acc c.new.nd c.new.kn c.old.wr = c.nao := rfl
  rw [e1, e2]
  unfold Chan.kind at q
  refine ⟨_, rfl, _, rfl, ?_⟩
  cases h1 : c.ona <;> cases h2 : c.nao <;> rw [h1, h2] at q
  · exact ifF rfl ⟨_, rfl, _, rfl, ifF rfl q⟩
  · exact ifT rfl ⟨_, rfl, _, rfl, ifF rfl q⟩
  · exact ifF rfl ⟨_, rfl, _, rfl, ifT rfl q⟩
  · exact ifT rfl ⟨_, rfl, _, rfl, ifT rfl q⟩
theorem ok__law_pairs (T : Txt K w mg) (C__law_kind : DFn P w K mg base 2 "_law_kind" "_law_kind" s__law_kind ["_law_channel"] S__law_kind) {f : Addr} {fd : FuncData} (F : Fun K "_law_pairs" "_law_pairs" s__law_pairs f fd) (hm : mg "_law_pairs" = some (.ref f)) : DFn P w K mg base 3 "_law_pairs" "_law_pairs" s__law_pairs ["_law_lines"] S__law_pairs := by
  refine dfn_of F hm sc__law_pairs fun cdv A ou s H E hg hr => ⟨_, (ds_cons (ds_set 1 sc__law_pairs.nd (de_lstM da_nil)) (ds_cons (ds_for (T := (.n 2)) PassesOwn.never rfl (di_seq (de_var (pv 0))) (pg_n 2 sc__law_pairs.nd) (ds_cons (ds_par 3 4 rfl sc__law_pairs.nd (da_cons (de_ix (de_var (pv 2)) de_int) (da_cons (de_call C__law_kind hg hr (by decide) (fun _ _ _ _ _ _ us hl => match us, hl with | [_], _ => rfl) (da_cons (de_var (pv 2)) da_nil rfl)) da_nil rfl) rfl)) (ds_cons (ds_if (dt_cmp (op2_eq hr) (de_var (pv 4)) de_str) (ds_one (ds_expr (de_meth PySem.F.plainAttrs_list PySem.F.slot_list_append PySem.F.type_list_append mt_appendD isLst.ok (de_var (pv 1)) (da_cons (de_tup (da_cons (de_tup (da_cons (de_var (pv 3)) (da_cons de_str da_nil rfl) rfl)) (da_cons (de_tup (da_cons (de_var (pv 3)) (da_cons de_str da_nil rfl) rfl)) da_nil rfl) rfl)) da_nil rfl)))) ds_nil) (ds_cons (ds_if (dt_cmp (op2_eq hr) (de_var (pv 4)) de_str) (ds_one (ds_expr (de_meth PySem.F.plainAttrs_list PySem.F.slot_list_append PySem.F.type_list_append mt_appendD isLst.ok (de_var (pv 1)) (da_cons (de_tup (da_cons (de_tup (da_cons (de_var (pv 3)) (da_cons de_str da_nil rfl) rfl)) (da_cons (de_tup (da_cons (de_var (pv 3)) (da_cons de_str da_nil rfl) rfl)) da_nil rfl) rfl)) da_nil rfl)))) ds_nil) (ds_one (ds_if (dt_cmp (op2_eq hr) (de_var (pv 4)) de_str) (ds_one (ds_expr (de_meth PySem.F.plainAttrs_list PySem.F.slot_list_extend PySem.F.type_list_extend mt_extendD isLst.ok (de_var (pv 1)) (da_cons (de_lst (da_cons (de_tup (da_cons (de_tup (da_cons (de_var (pv 3)) (da_cons de_str da_nil rfl) rfl)) (da_cons (de_tup (da_cons (de_var (pv 3)) (da_cons de_str da_nil rfl) rfl)) da_nil rfl) rfl)) (da_cons (de_tup (da_cons (de_tup (da_cons (de_var (pv 3)) (da_cons de_str da_nil rfl) rfl)) (da_cons (de_tup (da_cons (de_var (pv 3)) (da_cons de_str da_nil rfl) rfl)) da_nil rfl) rfl)) da_nil rfl) rfl)) da_nil rfl)))) ds_nil)))))) (ds_one (ds_ret (de_callB (ol_sortedD hr) rfl T.sorted (by decide +kernel) (da_cons (de_var (pv 1)) da_nil rfl)))))), fun ds h k hl hS => ?_⟩
  obtain ⟨svc, cs, rfl, ok, q⟩ := hS
  have l40 := ok.l40
  have kn := kinds_ne
  with_reducible refine seq_cut (fun ρ' h' => ρ' = [some (chsD cs), some (.ref h.length), none, none, none] ∧ h' = h ++ [.lst []]) ?_ ?_
  rotate_left
  · intro nx hnx
    exact ⟨szl (by simp), hnx _ _ ⟨rfl, rfl⟩⟩
  rintro ρ' h' ⟨rfl, rfl⟩
  with_reducible refine seq_cut (fun ρ' h' => ∃ (a b c : Option D), ρ' = [some (chsD cs), some (.ref h.length), a, b, c] ∧ GR h h' ∧ h'[h.length]? = some (.lst ((prsL cs).map prsD))) ?_ ?_
  · rintro ρ' h' ⟨a, b, c, rfl, gr, e3⟩
    refine ⟨_, rfl, _, .inr ⟨_, rfl, e3⟩, prs_srtOk _, ?_⟩
    rw [srtD_prs]; exact q _ gr
  intro nx hnx
  refine ⟨_, rfl, _, rfl, for_rest (fun its ρ' h' => ∃ (dn rs : List Chan) (a b c : Option D), its = rs.map Chan.d ∧ cs = dn ++ rs ∧ ρ' = [some (chsD cs), some (.ref h.length), a, b, c] ∧ GR h h' ∧ h'[h.length]? = some (.lst ((prsL dn).map prsD))) (fun _ _ _ _ => trivial) ?_ ?_ ⟨[], cs, none, none, none, rfl, rfl, rfl, GR.push h _, get_last _ _⟩⟩
  · rintro ρ' h' ⟨dn, rs, a, b, c, e0, e1, rfl, gr, e3⟩
    have : rs = [] := by
      cases rs with
      | nil => rfl
      | cons x r => simp at e0
    subst this
    rw [List.append_nil] at e1
    subst e1
    exact hnx _ _ ⟨a, b, c, rfl, gr, e3⟩
  rintro x its ρ' h' ⟨dn, rs, a2, a3, a4, e0, e1, rfl, gr, e3⟩ e' hn hct hbk hrt
  cases rs with
  | nil => simp at e0
  | cons c rs =>
  rw [List.map_cons, List.cons.injEq] at e0
  obtain ⟨rfl, rfl⟩ := e0
  have oc := ok.ch c (by rw [e1]; simp)
  have ldn : dn.length ≤ 40 := by have := congrArg List.length e1; simp at this; omega
  have lp : ((prsL dn).map prsD).length ≤ 160 := by
    have := nbL_len dn
    unfold prsL; rw [List.length_map, List.length_map]; omega
  refine ⟨_, rfl, ?_⟩
  with_reducible refine seq_cut (fun ρ' h2 => h' = h2 ∧ ρ' = [some (chsD cs), some (.ref h.length), some c.d, some (.str c.nm), some (.str c.kind)]) ?_ ?_
  rotate_left
  · intro nx1 hnx1
    exact ⟨_, rfl, _, rfl, _, rfl, rfl, c, rfl, oc.old, oc.new, _, _, rfl, hnx1 _ _ ⟨rfl, rfl⟩⟩
  rintro ρ' h2 ⟨rfl, rfl⟩
  have done : ∀ h2, GR h h2 → h2[h.length]? = some (.lst ((prsL dn ++ c.nbs.map nbPr).map prsD)) → e'.nx [some (chsD cs), some (.ref h.length), some c.d, some (.str c.nm), some (.str c.kind)] h2 := fun h2 g2 e4 => hn _ _ ⟨dn ++ [c], rs, _, _, _, rfl, by rw [e1]; simp, rfl, g2, by rw [prsL_app, prsL_one]; exact e4⟩
  rw [c.nbs_kind] at done
  have put : ∀ (l : List D) (h2 : DH), GR h h2 → GR h (h2.set h.length (.lst l)) := fun l h2 g => g.set (Nat.le_refl _) _
  have at_ : ∀ (l : List D) (h2 : DH), h2[h.length]? = some (.lst ((prsL dn).map prsD)) → (h2.set h.length (.lst l))[h.length]? = some (.lst l) := fun l h2 e => List.getElem?_set_self (List.getElem?_eq_some_iff.mp e).1
  have no : ∀ x : Str, c.kind ≠ x → dEq (.str c.kind) (.str x) = false := fun x n => by rw [dEq_str]; exact decide_eq_false n
  have ye : ∀ x : Str, c.kind = x → dEq (.str c.kind) (.str x) = true := fun x n => by rw [dEq_str]; exact decide_eq_true n
  rcases c.kind4 with e | e | e | e
  · refine ⟨_, rfl, .inr trivial, _, rfl, ifF (no kReader (by rw [e]; exact kn.1)) ?_⟩
    refine ⟨_, rfl, .inr trivial, _, rfl, ifF (no kWriter (by rw [e]; exact kn.2.1)) ?_⟩
    refine ⟨_, rfl, .inr trivial, _, rfl, ifF (no kSplit (by rw [e]; exact kn.2.2.1)) (done _ gr ?_)⟩
    rw [if_neg (by rw [e]; exact kn.1), if_neg (by rw [e]; exact kn.2.1), if_neg (by rw [e]; exact kn.2.2.1)]
    simpa using e3
  · refine ⟨_, rfl, .inr trivial, _, rfl, ifT (ye kReader e) ?_⟩
    refine ⟨_, rfl, .inl ⟨_, _, rfl, e3⟩, _, rfl, szl (by simp), _, rfl, szl (by simp), szl (by simp), _, _, _, rfl, rfl, e3, szlt (by omega), ?_⟩
    refine ⟨_, rfl, .inr trivial, _, rfl, ifF (no kWriter (by rw [e]; exact kn.2.2.2.1)) ?_⟩
    refine ⟨_, rfl, .inr trivial, _, rfl, ifF (no kSplit (by rw [e]; exact kn.2.2.2.2.1)) (done _ (put _ _ gr) ?_)⟩
    rw [at_ _ _ e3, if_pos e, List.map_append]; rfl
  · refine ⟨_, rfl, .inr trivial, _, rfl, ifF (no kReader (by rw [e]; exact kn.2.2.2.1.symm)) ?_⟩
    refine ⟨_, rfl, .inr trivial, _, rfl, ifT (ye kWriter e) ?_⟩
    refine ⟨_, rfl, .inl ⟨_, _, rfl, e3⟩, _, rfl, szl (by simp), _, rfl, szl (by simp), szl (by simp), _, _, _, rfl, rfl, e3, szlt (by omega), ?_⟩
    refine ⟨_, rfl, .inr trivial, _, rfl, ifF (no kSplit (by rw [e]; exact kn.2.2.2.2.2)) (done _ (put _ _ gr) ?_)⟩
    rw [at_ _ _ e3, if_neg (by rw [e]; exact kn.2.2.2.1.symm), if_pos e, List.map_append]; rfl
  · refine ⟨_, rfl, .inr trivial, _, rfl, ifF (no kReader (by rw [e]; exact kn.2.2.2.2.1.symm)) ?_⟩
    refine ⟨_, rfl, .inr trivial, _, rfl, ifF (no kWriter (by rw [e]; exact kn.2.2.2.2.2.symm)) ?_⟩
    refine ⟨_, rfl, .inr trivial, _, rfl, ifT (ye kSplit e) ?_⟩
    refine ⟨_, rfl, .inl ⟨_, _, rfl, e3⟩, _, rfl, szl (by simp), _, rfl, szl (by simp), szl (by simp), _, rfl, szl (by simp), _, rfl, szl (by simp), szl (by simp), szl (by simp), _, _, _, rfl, rfl, e3, szl (by simp at lp ⊢; omega), done _ (put _ _ gr) ?_⟩
    rw [at_ _ _ e3, if_neg (by rw [e]; exact kn.2.2.2.2.1.symm), if_neg (by rw [e]; exact kn.2.2.2.2.2.symm), if_pos e, List.map_append]; rfl
theorem ok__law_steps (T : Txt K w mg) (C__law_kind : DFn P w K mg base 2 "_law_kind" "_law_kind" s__law_kind ["_law_channel"] S__law_kind) {f : Addr} {fd : FuncData} (F : Fun K "_law_steps" "_law_steps" s__law_steps f fd) (hm : mg "_law_steps" = some (.ref f)) : DFn P w K mg base 3 "_law_steps" "_law_steps" s__law_steps ["_law_lines"] S__law_steps := by
  refine dfn_of F hm sc__law_steps fun cdv A ou s H E hg hr => ⟨_, (ds_cons (ds_set 1 sc__law_steps.nd de_dictT0) (ds_cons (ds_for (T := (.n 2)) PassesOwn.never rfl (di_seq (de_var (pv 0))) (pg_n 2 sc__law_steps.nd) (ds_cons (ds_asg (de_var (pv 2)) (dg_tup rfl (dgs_cons (dg_name 3 sc__law_steps.nd) (dgs_cons (dg_name 4 sc__law_steps.nd) (dgs_cons (dg_name 5 sc__law_steps.nd) (dgs_cons (dg_name 6 sc__law_steps.nd) (dgs_cons (dg_name 7 sc__law_steps.nd) dgs_nil))))))) (ds_cons (ds_if (dt_cmp (op2_ne hr) (de_ix (de_var (pv 6)) de_int) (de_ix (de_var (pv 7)) de_int)) (ds_one (ds_dputT hr (de_var (pv 1)) (da_cons (de_var (pv 3)) (da_cons de_str da_nil rfl) rfl) (de_var (pv 4)))) ds_nil) (ds_one (ds_if (dt_cmp (op2_ne hr) (de_slice (de_var (pv 6)) (do_some de_int) do_none) (de_slice (de_var (pv 7)) (do_some de_int) do_none)) (ds_one (ds_for (T := (.n 8)) PassesOwn.never rfl (di_seq (de_if (dt_cmp (op2_eq hr) (de_call C__law_kind hg hr (by decide) (fun _ _ _ _ _ _ us hl => match us, hl with | [_], _ => rfl) (da_cons (de_var (pv 2)) da_nil rfl)) de_str) (de_lst (da_cons de_str (da_cons de_str da_nil rfl) rfl)) (de_lst (da_cons de_str da_nil rfl)))) (pg_n 8 sc__law_steps.nd) (ds_one (ds_dputT hr (de_var (pv 1)) (da_cons (de_var (pv 3)) (da_cons (de_var (pv 8)) da_nil rfl) rfl) (de_var (pv 5)))))) ds_nil))))) (ds_one (ds_ret (de_var (pv 1)))))), fun ds h k hl hS => ?_⟩
  obtain ⟨svc, cs, dd, rfl, hd, ok, q⟩ := hS
  have l40 := ok.l40
  with_reducible refine seq_cut (fun ρ' h' => ρ' = [some dd, some (.ref h.length), none, none, none, none, none, none, none] ∧ h' = h ++ [.dt [] []]) ?_ ?_
  rotate_left
  · intro nx hnx
    exact hnx _ _ ⟨rfl, rfl⟩
  rintro ρ' h' ⟨rfl, rfl⟩
  with_reducible refine seq_cut (fun ρ' h' => ∃ a b c d e f g, ρ' = [some dd, some (.ref h.length), a, b, c, d, e, f, g] ∧ GR h h' ∧ h'[h.length]? = some (.dt (ksOf (lawP cs)) (dsOf (lawP cs)))) ?_ ?_
  · rintro ρ' h' ⟨a, b, c, d, e, f, g, rfl, gr, e3⟩
    exact ⟨_, rfl, q _ _ gr rfl e3⟩
  intro nx hnx
  obtain ⟨okk, hit, hok⟩ := hd.items (GR.push h (.dt [] []))
  refine ⟨_, rfl, _, hit, for_rest (fun its ρ' h' => ∃ (dn rs : List Chan) (a b c d e f g : Option D), its = rs.map Chan.d ∧ cs = dn ++ rs ∧ ρ' = [some dd, some (.ref h.length), a, b, c, d, e, f, g] ∧ GR h h' ∧ h'[h.length]? = some (.dt (ksOf (lawP dn)) (dsOf (lawP dn)))) (fun its ρ' h' hj => by obtain ⟨dn, rs, a, b, c, d, e, f, g, e0, e1, e2, gr, e3⟩ := hj; exact hok _ gr) ?_ ?_ ⟨[], cs, none, none, none, none, none, none, none, rfl, rfl, rfl, GR.push h _, get_last _ _⟩⟩
  · rintro ρ' h' ⟨dn, rs, a, b, c, d, e, f, g, e0, e1, rfl, gr, e3⟩
    have : rs = [] := by
      cases rs with
      | nil => rfl
      | cons x r => simp at e0
    subst this
    rw [List.append_nil] at e1
    subst e1
    exact hnx _ _ ⟨a, b, c, d, e, f, g, rfl, gr, e3⟩
  rintro x its ρ' h' ⟨dn, rs, a2, a3, a4, a5, a6, a7, a8, e0, e1, rfl, gr, e3⟩ e' hn hct hbk hrt
  cases rs with
  | nil => simp at e0
  | cons c rs =>
  rw [List.map_cons, List.cons.injEq] at e0
  obtain ⟨rfl, rfl⟩ := e0
  have hcm : c ∈ cs := by rw [e1]; simp
  have oc := ok.ch c hcm
  have ho := oc.old
  have hnw := oc.new
  have ldn := lawP_len dn
  have ldn2 : dn.length ≤ 40 := by have := congrArg List.length e1; simp at this; omega
  have fresh : ∀ w, ∀ p ∈ lawP dn, p.1 ≠ (c.nm, w) := fun w p hp e => by
    obtain ⟨d, hd, e2, _⟩ := lawP_mem.mp hp
    have nd := ok.casc.nodup
    rw [e1, List.map_append, List.map_cons, List.nodup_append] at nd
    exact nd.2.2 d.nm (List.mem_map.mpr ⟨d, hd, rfl⟩) c.nm (by simp) (by rw [← e2, e])
  refine ⟨_, rfl, ?_⟩
  refine ⟨_, rfl, _, rfl, rfl, _, _, rfl, _, _, rfl, _, _, rfl, _, _, rfl, _, _, rfl, rfl, ?_⟩
  have nx2 : ∀ (g : Option D) (h2 : DH), GR h h2 → h2[h.length]? = some (.dt (ksOf (lawP dn ++ c.lawW.map fun w => ((c.nm, w), c.own w))) (dsOf (lawP dn ++ c.lawW.map fun w => ((c.nm, w), c.own w)))) → e'.nx [some dd, some (.ref h.length), some c.d, some (.str c.nm), some (.str c.snd), some (.str c.rcv), some c.old.d, some c.new.d, g] h2 := fun g h2 g2 e4 => hn _ _ ⟨dn ++ [c], rs, _, _, _, _, _, _, _, rfl, by rw [e1]; simp, rfl, g2, by rw [lawP_app]; simpa [lawP] using e4⟩
  -- the switch
  with_reducible refine seq_cut (fun ρ' h2 => ρ' = [some dd, some (.ref h.length), some c.d, some (.str c.nm), some (.str c.snd), some (.str c.rcv), some c.old.d, some c.new.d, a8] ∧ GR h h2 ∧ h2[h.length]? = some (.dt (ksOf (lawP dn ++ (if c.old.wr = c.new.wr then [] else [((c.nm, wSwitch), c.snd)]))) (dsOf (lawP dn ++ (if c.old.wr = c.new.wr then [] else [((c.nm, wSwitch), c.snd)]))))) ?_ ?_
  rotate_left
  · intro nx1 hnx1
    refine ⟨_, rfl, _, rfl, _, rfl, _, rfl, .inl ⟨ho.wr.sm.dat, hnw.wr.sm.dat⟩, _, rfl, ?_⟩
    show (if (!dEq (txs c.old.wr) (txs c.new.wr)) = true then _ else _)
    rw [dEq_txs]
    by_cases e2 : c.old.wr = c.new.wr
    · rw [if_neg (by simp [e2])]
      refine hnx1 _ _ ⟨rfl, gr, ?_⟩
      rw [if_pos e2, List.append_nil]; exact e3
    · rw [if_pos (by simp [e2])]
      obtain ⟨p1, p2⟩ := put_fresh (fresh wSwitch) c.snd
      refine ⟨_, rfl, _, rfl, _, rfl, _, _, _, Vf.stepK (c.nm, wSwitch), rfl, rfl, szl (by simp), e3, szlt (by simp [ksOf]; omega), hnx1 _ _ ⟨rfl, gr.set (Nat.le_refl _) _, ?_⟩⟩
      rw [List.getElem?_set_self (List.getElem?_eq_some_iff.mp e3).1, p1, p2, if_neg e2]
  clear e3 gr
  rintro ρ' h2 ⟨rfl, gr, e3⟩
  generalize hsw : (if c.old.wr = c.new.wr then [] else [((c.nm, wSwitch), c.snd)]) = sw at e3
  have swl : sw.length ≤ 1 ∧ ∀ p ∈ sw, p.1 = (c.nm, wSwitch) := by
    rw [← hsw]; split <;> simp
  refine ⟨_, rfl, _, rfl, _, rfl, _, rfl, .inl ⟨ho.smR.dat, hnw.smR.dat⟩, _, rfl, ?_⟩
  have er : dEq c.old.rd c.new.rd = decide (c.old.nd = c.new.nd ∧ c.old.kn = c.new.kn) := by
    rw [Bool.eq_iff_iff, dEq_iff (Fmt.rd_pln _) (Fmt.rd_pln _), decide_eq_true_eq]
    exact ⟨fun e => Fmt.rd_inj e, fun e => by unfold Fmt.rd; rw [e.1, e.2]⟩
  show (if (!dEq c.old.rd c.new.rd) = true then _ else _)
  rw [er]
  have osw : sw = (if c.old.wr = c.new.wr then [] else [wSwitch]).map fun w => ((c.nm, w), c.own w) := by
    rw [← hsw]; split <;> rfl
  by_cases e2 : c.old.nd = c.new.nd ∧ c.old.kn = c.new.kn
  · rw [if_neg (by simp [e2])]
    refine nx2 _ h2 gr ?_
    unfold Chan.lawW
    rw [if_pos e2, List.append_nil, ← osw]; exact e3
  rw [if_pos (by simp [e2])]
  -- the words
  refine ⟨_, rfl, rfl, c, rfl, ho, hnw, .inr trivial, _, rfl, ?_⟩
  rw [dEq_str]
  have fresh2 : ∀ w, w ≠ wSwitch → ∀ p ∈ lawP dn ++ sw, p.1 ≠ (c.nm, w) := fun w hw p hp e => by
    rcases List.mem_append.mp hp with hp | hp
    · exact fresh w p hp e
    · rw [swl.2 p hp] at e
      exact hw (Prod.ext_iff.mp e).2.symm
  have ll : (lawP dn ++ sw).length ≤ 200 := by simp; omega
  by_cases e4 : c.kind = kSplit
  · refine ifT (decide_eq_true e4) ?_
    obtain ⟨p1, p2⟩ := put_fresh (fresh2 wWiden (by decide +kernel)) c.rcv
    refine ⟨szl (by simp), _, rfl, trivial, _, rfl, _, rfl, _, rfl, _, rfl, _, rfl, _, _, _, Vf.stepK (c.nm, wWiden), rfl, rfl, szl (by simp), e3, szlt (by simp [ksOf]; omega), ?_⟩
    have e5 : (h2.set h.length (.dt (ksOf (lawP dn ++ sw ++ [((c.nm, wWiden), c.rcv)])) (dsOf (lawP dn ++ sw ++ [((c.nm, wWiden), c.rcv)]))))[h.length]? = some (.dt (ksOf (lawP dn ++ sw ++ [((c.nm, wWiden), c.rcv)])) (dsOf (lawP dn ++ sw ++ [((c.nm, wWiden), c.rcv)]))) := List.getElem?_set_self (List.getElem?_eq_some_iff.mp e3).1
    have g5 := gr.set (Nat.le_refl _) (.dt (ksOf (lawP dn ++ sw ++ [((c.nm, wWiden), c.rcv)])) (dsOf (lawP dn ++ sw ++ [((c.nm, wWiden), c.rcv)])))
    rw [p1, p2]
    generalize h2.set h.length (.dt (ksOf (lawP dn ++ sw ++ [((c.nm, wWiden), c.rcv)])) (dsOf (lawP dn ++ sw ++ [((c.nm, wWiden), c.rcv)]))) = h5 at e5 g5 ⊢
    have f3 : ∀ p ∈ lawP dn ++ sw ++ [((c.nm, wWiden), c.rcv)], p.1 ≠ (c.nm, wNarrow) := fun p hp e => by
      rcases List.mem_append.mp hp with hp | hp
      · exact fresh2 wNarrow (by decide +kernel) p hp e
      · rw [List.mem_singleton.mp hp] at e
        exact absurd (show wWiden = wNarrow from (Prod.ext_iff.mp e).2) (by decide +kernel)
    obtain ⟨p3, p4⟩ := put_fresh f3 c.rcv
    refine ⟨trivial, _, rfl, _, rfl, _, rfl, _, rfl, _, rfl, _, _, _, Vf.stepK (c.nm, wNarrow), rfl, rfl, szl (by simp), e5, szlt (by simp [ksOf]; omega), trivial, nx2 _ _ (g5.set (Nat.le_refl _) _) ?_⟩
    rw [List.getElem?_set_self (List.getElem?_eq_some_iff.mp e5).1, p3, p4]
    have el : lawP dn ++ sw ++ [((c.nm, wWiden), c.rcv)] ++ [((c.nm, wNarrow), c.rcv)] = lawP dn ++ c.lawW.map fun w => ((c.nm, w), c.own w) := by
      unfold Chan.lawW
      rw [if_neg e2, if_pos e4, List.map_append, ← osw, List.append_assoc, List.append_assoc]; rfl
    rw [el]
  · refine ifF (decide_eq_false e4) ?_
    obtain ⟨p1, p2⟩ := put_fresh (fresh2 wRead (by decide +kernel)) c.rcv
    refine ⟨szl (by simp), _, rfl, trivial, _, rfl, _, rfl, _, rfl, _, rfl, _, rfl, _, _, _, Vf.stepK (c.nm, wRead), rfl, rfl, szl (by simp), e3, szlt (by simp [ksOf]; omega), trivial, nx2 _ _ (gr.set (Nat.le_refl _) _) ?_⟩
    rw [List.getElem?_set_self (List.getElem?_eq_some_iff.mp e3).1, p1, p2]
    have el : lawP dn ++ sw ++ [((c.nm, wRead), c.rcv)] = lawP dn ++ c.lawW.map fun w => ((c.nm, w), c.own w) := by
      unfold Chan.lawW
      rw [if_neg e2, if_neg e4, List.map_append, ← osw, List.append_assoc]; rfl
    rw [el]
theorem ok__law_edges (T : Txt K w mg) (C__law_pairs : DFn P w K mg base 3 "_law_pairs" "_law_pairs" s__law_pairs ["_law_lines"] S__law_pairs) (C__law_steps : DFn P w K mg base 3 "_law_steps" "_law_steps" s__law_steps ["_law_lines"] S__law_steps) {f : Addr} {fd : FuncData} (F : Fun K "_law_edges" "_law_edges" s__law_edges f fd) (hm : mg "_law_edges" = some (.ref f)) : DFn P w K mg base 4 "_law_edges" "_law_edges" s__law_edges ["_law_lines"] S__law_edges := by
  refine dfn_of F hm sc__law_edges fun cdv A ou s H E hg hr => ⟨_, (ds_cons (ds_par 1 2 rfl sc__law_edges.nd (da_cons (de_call C__law_steps hg hr (by decide) (fun _ _ _ _ _ _ us hl => match us, hl with | [_], _ => rfl) (da_cons (de_var (pv 0)) da_nil rfl)) (da_cons de_dictT0 da_nil rfl) rfl)) (ds_cons (ds_for (T := (.t [(.n 3), (.n 4)])) PassesOwn.never rfl (di_seq (de_call C__law_pairs hg hr (by decide) (fun _ _ _ _ _ _ us hl => match us, hl with | [_], _ => rfl) (da_cons (de_var (pv 0)) da_nil rfl))) (pg_t rfl (pgs_c (pg_n 3 sc__law_edges.nd) (pgs_c (pg_n 4 sc__law_edges.nd) pgs_n))) (ds_one (ds_if (dt_cmp (op2_ne hr) (de_dixL hr (de_var (pv 1)) (de_var (pv 3))) (de_dixL hr (de_var (pv 1)) (de_var (pv 4)))) (ds_one (ds_dputT hr (de_var (pv 2)) (da_cons (de_dixL hr (de_var (pv 1)) (de_var (pv 3))) (da_cons (de_dixL hr (de_var (pv 1)) (de_var (pv 4))) da_nil rfl) rfl) de_bl)) ds_nil))) (ds_one (ds_ret (de_callB (ol_sortedT rfl hr) rfl T.sorted (by decide +kernel) (da_cons (de_var (pv 2)) da_nil rfl)))))), fun ds h k hl hS => ?_⟩
  obtain ⟨svc, cs, rfl, ok, q⟩ := hS
  have l40 := ok.l40
  have lsp := sortP_len cs
  with_reducible refine seq_cut (fun ρ' h' => ∃ n1 n2, ρ' = [some (chsD cs), some (.ref n1), some (.ref n2), none, none] ∧ GR h h' ∧ h.length ≤ n2 ∧ n1 ≠ n2 ∧ h'[n1]? = some (.dt (ksOf (lawP cs)) (dsOf (lawP cs))) ∧ h'[n2]? = some (.dt [] [])) ?_ ?_
  rotate_left
  · intro nx hnx
    refine ⟨_, rfl, rfl, svc, cs, _, rfl, .inl rfl, ok, fun n h1 gr en e1 => ⟨_, _, rfl, hnx _ _ ⟨n, h1.length, rfl, gr.trans (GR.push _ _), gr.len, ?_, (GR.push _ _).at e1, get_last _ _⟩⟩⟩
    have := (List.getElem?_eq_some_iff.mp e1).1; omega
  rintro ρ' h1 ⟨n1, n2, rfl, gr1, hn2, hne, e1, e2⟩
  with_reducible refine seq_cut (fun ρ' h' => ∃ (a b : Option D) (l : List Stp), ρ' = [some (chsD cs), some (.ref n1), some (.ref n2), a, b] ∧ GR h h' ∧ l.Nodup ∧ (∀ e, e ∈ l ↔ e ∈ nbEs cs ∧ e.1 ≠ e.2) ∧ h'[n2]? = some (.dt (l.map Vf.stepK) (l.map fun _ => D.bl true))) ?_ ?_
  · rintro ρ' h' ⟨a, b, l, rfl, gr, nd, mem, e⟩
    have so : SrtOk ((l.map Vf.stepK).map keyD) := (sorted_pairs nd (List.Perm.refl _)).1
    refine ⟨_, rfl, _, _, _, rfl, ⟨n2, rfl, .inl e⟩, so, ?_⟩
    rw [(sorted_pairs nd (List.Perm.refl _)).2, ascS_ext (sortS_asc nd) (edgS_asc cs) fun x => by rw [(sortS_perm _).mem_iff, mem x, edgS_mem]]
    exact q _ gr
  intro nx hnx
  refine ⟨_, rfl, rfl, svc, cs, rfl, ok, fun h2 gr2 => ⟨_, rfl, ?_⟩⟩
  refine for_rest (fun its ρ' h' => ∃ (dn rs : List Prs) (a b : Option D) (l : List Stp), its = rs.map prsD ∧ sortP (prsL cs) = dn ++ rs ∧ ρ' = [some (chsD cs), some (.ref n1), some (.ref n2), a, b] ∧ GR h h' ∧ l.Nodup ∧ l.length ≤ dn.length ∧ (∀ e, e ∈ l ↔ (∃ pr ∈ dn, e = (ownr cs pr.1, ownr cs pr.2)) ∧ e.1 ≠ e.2) ∧ h'[n1]? = some (.dt (ksOf (lawP cs)) (dsOf (lawP cs))) ∧ h'[n2]? = some (.dt (l.map Vf.stepK) (l.map fun _ => D.bl true))) (fun _ _ _ _ => trivial) ?_ ?_ ⟨[], _, none, none, [], rfl, rfl, rfl, gr1.trans gr2, List.nodup_nil, Nat.le_refl _, fun e => by simp, gr2.at e1, gr2.at e2⟩
  · rintro ρ' h' ⟨dn, rs, a, b, l, e0, es, rfl, gr, nd, ll, mem, f1, f2⟩
    have : rs = [] := by
      cases rs with
      | nil => rfl
      | cons x r => simp at e0
    subst this
    rw [List.append_nil] at es
    refine hnx _ _ ⟨a, b, l, rfl, gr, nd, fun e => ?_, f2⟩
    rw [mem e, nbEs_prs ok, ← es]
    refine and_congr_left fun _ => ?_
    exact ⟨fun ⟨pr, hp, z⟩ => ⟨pr, (sortP_perm _).mem_iff.mp hp, z⟩, fun ⟨pr, hp, z⟩ => ⟨pr, (sortP_perm _).mem_iff.mpr hp, z⟩⟩
  clear gr1 e1 e2 gr2
  rintro x its ρ' h' ⟨dn, rs, a, b, l, e0, es, rfl, gr, nd, ll, mem, f1, f2⟩ e' hn hct hbk hrt
  cases rs with
  | nil => simp at e0
  | cons pr rs =>
  rw [List.map_cons, List.cons.injEq] at e0
  obtain ⟨rfl, rfl⟩ := e0
  have hpr : pr ∈ sortP (prsL cs) := by rw [es]; simp
  obtain ⟨m1, m2⟩ := prs_mem hpr
  have ldn : dn.length ≤ 160 := by have := congrArg List.length es; simp at this; omega
  refine ⟨_, rfl, ?_⟩
  refine ⟨_, rfl, _, rfl, _, _, Vf.stepK pr.1, _, ⟨n1, rfl, .inl f1⟩, rfl, law_at ok m1, _, rfl, _, rfl, _, _, Vf.stepK pr.2, _, ⟨n1, rfl, .inl f1⟩, rfl, law_at ok m2, .inr trivial, _, rfl, ?_⟩
  rw [dEq_str]
  by_cases eo : ownr cs pr.1 = ownr cs pr.2
  · refine ifF (by simp [eo]) (hn _ _ ⟨dn ++ [pr], rs, _, _, l, rfl, by rw [es]; simp, rfl, gr, nd, by simp; omega, fun e => ?_, f1, f2⟩)
    rw [mem e]
    refine ⟨fun ⟨⟨q, hq, z⟩, u⟩ => ⟨⟨q, by simp [hq], z⟩, u⟩, fun ⟨⟨q, hq, z⟩, u⟩ => ⟨⟨q, ?_, z⟩, u⟩⟩
    rcases List.mem_append.mp hq with hq | hq
    · exact hq
    · rw [List.mem_singleton.mp hq] at z
      rw [z] at u; exact absurd eo u
  · refine ifT (by simp [eo]) ?_
    refine ⟨_, rfl, _, rfl, _, rfl, _, _, Vf.stepK pr.1, _, ⟨n1, rfl, .inl f1⟩, rfl, law_at ok m1, _, rfl, _, rfl, _, _, Vf.stepK pr.2, _, ⟨n1, rfl, .inl f1⟩, rfl, law_at ok m2, n2, _, _, Vf.stepK (ownr cs pr.1, ownr cs pr.2), rfl, rfl, szl (by simp), f2, szlt (by simp; omega), hn _ _ ⟨dn ++ [pr], rs, _, _, insE (ownr cs pr.1, ownr cs pr.2) l, rfl, by rw [es]; simp, rfl, gr.set hn2 _, insE_nodup nd, ?_, fun e => ?_, ?_, ?_⟩⟩
    · have := insE_len (ownr cs pr.1, ownr cs pr.2) l
      simp; omega
    · rw [insE_mem, mem e]
      constructor
      · rintro (rfl | ⟨⟨q, hq, z⟩, u⟩)
        · exact ⟨⟨pr, by simp, rfl⟩, eo⟩
        · exact ⟨⟨q, by simp [hq], z⟩, u⟩
      · rintro ⟨⟨q, hq, z⟩, u⟩
        rcases List.mem_append.mp hq with hq | hq
        · exact .inr ⟨⟨q, hq, z⟩, u⟩
        · rw [List.mem_singleton.mp hq] at z
          exact .inl z
    · rw [List.getElem?_set_ne (Ne.symm hne)]; exact f1
    · rw [List.getElem?_set_self (List.getElem?_eq_some_iff.mp f2).1, putTs_step, putVT_true]
theorem ok_is_ascending (T : Txt K w mg) {f : Addr} {fd : FuncData} (F : Fun K "is_ascending" "is_ascending" s_is_ascending f fd) (hm : mg "is_ascending" = some (.ref f)) : DFn P w K mg base 1 "is_ascending" "is_ascending" s_is_ascending ["parts"] S_is_ascending := by
  refine dfn_of F hm sc_is_ascending fun cdv A ou s H E hg hr => ⟨_, (ds_one (ds_ret (de_callB (ol_all rfl) rfl T.all (by decide +kernel) (da_cons (de_lc (own := [("low", 1), ("high", 2)]) (T := (.t [(.n 1), (.n 2)])) rfl sc_is_ascending.nd (di_zip rfl T.zip (da_cons (de_var (pv 0)) (da_cons (de_slice (de_var (pv 0)) (do_some de_int) do_none) da_nil rfl) rfl)) (blkOk_by (N := N_is_ascending) (sc := defScope s_is_ascending) (by decide +kernel)) (by decide) (fun _ _ _ _ _ => (pg_t rfl (pgs_c (pg_n 1 sc_is_ascending.nd) (pgs_c (pg_n 2 sc_is_ascending.nd) pgs_n)))) (fun _ _ _ _ _ => dts_nil) (fun _ _ _ _ _ => (de_cmp (op2_ltA hr) (de_var (pv 1)) (de_var (pv 2))))) da_nil rfl)))), fun ds h k hl hS => ?_⟩
  rcases hS with ⟨xs, d, rfl, hd, ha, hl, q⟩ | ⟨l, rfl, ha, hl, q⟩
  rcases hd with rfl | rfl
  · refine ⟨_, rfl, _, rfl, 1, rfl, _, _, .inr rfl, lc_pureT (g := fun _ => .bl true) trivial ?_ (szl ?_) ?_⟩
    · intro y hy
      rw [cut_one] at hy
      unfold zipD at hy
      rw [← List.map_drop, List.zip_map, List.map_map] at hy
      obtain ⟨p, hp, rfl⟩ := List.mem_map.mp hy
      refine ⟨_, rfl, fun k' hk' => ⟨_, rfl, _, rfl, ?_⟩⟩
      refine .inl ?_
      show k' (.bl (decide (p.1.cps.toList < p.2.cps.toList))) h
      rw [decide_eq_true (zip_tail xs ha p hp)]
      exact hk'
    · unfold zipD; simp; omega
    · have r := rep_all (zipD (xs.map .str) (cutD (xs.map .str) (some 1) none))
      refine ⟨_, by rw [List.nil_append, r.1], ?_⟩
      rw [r.2]; exact q
  · refine ⟨_, rfl, _, rfl, 1, rfl, _, _, .inl rfl, lc_pureT (g := fun _ => .bl true) trivial ?_ (szl ?_) ?_⟩
    · intro y hy
      rw [cut_one] at hy
      unfold zipD at hy
      rw [← List.map_drop, List.zip_map, List.map_map] at hy
      obtain ⟨p, hp, rfl⟩ := List.mem_map.mp hy
      refine ⟨_, rfl, fun k' hk' => ⟨_, rfl, _, rfl, ?_⟩⟩
      refine .inl ?_
      show k' (.bl (decide (p.1.cps.toList < p.2.cps.toList))) h
      rw [decide_eq_true (zip_tail xs ha p hp)]
      exact hk'
    · unfold zipD; simp; omega
    · have r := rep_all (zipD (xs.map .str) (cutD (xs.map .str) (some 1) none))
      refine ⟨_, by rw [List.nil_append, r.1], ?_⟩
      rw [r.2]; exact q
  · refine ⟨_, rfl, _, rfl, 1, rfl, _, _, .inr rfl, lc_pureT (g := fun _ => .bl true) trivial ?_ (szl ?_) ?_⟩
    · intro y hy
      rw [cut_one] at hy
      unfold zipD at hy
      rw [← List.map_drop, List.zip_map, List.map_map] at hy
      obtain ⟨p, hp, rfl⟩ := List.mem_map.mp hy
      refine ⟨_, rfl, fun k' hk' => ⟨_, rfl, _, rfl, .inr ⟨stepD_ordOk p.1, stepD_ordOk p.2, rfl, ?_⟩⟩⟩
      have e : dLt (stepD p.1) (stepD p.2) = true := zip_tailS l ha p hp
      show k' (.bl (dLt (stepD p.1) (stepD p.2))) h
      rw [e]; exact hk'
    · unfold zipD; simp; omega
    · have r := rep_all (zipD (l.map stepD) (cutD (l.map stepD) (some 1) none))
      refine ⟨_, by rw [List.nil_append, r.1], ?_⟩
      rw [r.2]; exact q
theorem ok_is_name (T : Txt K w mg) {f : Addr} {fd : FuncData} (F : Fun K "is_name" "is_name" s_is_name f fd) (hm : mg "is_name" = some (.ref f)) : DFn P w K mg base 1 "is_name" "is_name" s_is_name ["value"] S_is_name := by
  refine dfn_of F hm sc_is_name fun cdv A ou s H E hg hr => ⟨_, (ds_cons (ds_if (DW.dt (dw_or (dt_not (dt_val (de_isi (T := "str") (de_var (pv 0)) rfl T.isinstance rfl T.str (by decide +kernel)))) (dw_or1 (dt_not (dt_chain op2_le op2_le de_int (de_callB ol_len rfl T.len (by decide +kernel) (da_cons (de_var (pv 0)) da_nil rfl)) (de_const rfl T.LONGEST_NAME)))))) (ds_one (ds_ret de_bl)) ds_nil) (ds_one (ds_ret (de_callB (ol_all rfl) rfl T.all (by decide +kernel) (da_cons (de_lc (own := [("letter", 1)]) (T := (.n 1)) rfl sc_is_name.nd (di_seq (de_var (pv 0))) (blkOk_by (N := N_is_name) (sc := defScope s_is_name) (by decide +kernel)) (by decide) (fun _ _ _ _ _ => (pg_n 1 sc_is_name.nd)) (fun _ _ _ _ _ => dts_nil) (fun _ _ _ _ _ => (de_cmp (op2_in hr) (de_var (pv 1)) (de_const rfl T.LETTERS)))) da_nil rfl))))), fun ds h k hl hS => ?_⟩
  obtain ⟨x, rfl, hn, q⟩ := hS
  have h1 : x.length = x.cps.size := rfl
  refine ⟨_, rfl, _, _, rfl, rfl, true, rfl, ifF rfl ?_⟩
  have n1 := hn.1
  have n2 := hn.2.1
  refine ⟨_, rfl, _, _, rfl, ⟨szl (by omega), rfl⟩, _, rfl, ifT (decide_eq_true (by omega)) ⟨_, rfl, ifF (by simp; omega) ?_⟩⟩
  refine ⟨_, rfl, _, rfl, lc_pure (g := fun _ => .bl true) trivial ?_ (szl (by simp; omega)) ?_⟩
  · intro y hy k' hk'
    obtain ⟨c, hc, rfl⟩ := List.mem_map.mp hy
    refine ⟨_, rfl, ?_⟩
    have hb := hn.2.2 c hc
    have e : inStr ⟨#[c]⟩ (Str.ofString "abcdefghijklmnopqrstuvwxyz") = true := by
      rw [(inStr_one (a := ⟨#[c]⟩) (c := c) rfl).2]
      have := abc_mem ⟨c - 97, by omega⟩
      rw [show 97 + (c - 97) = c by omega] at this
      exact decide_eq_true this
    show k' (.bl (inStr ⟨#[c]⟩ (Str.ofString "abcdefghijklmnopqrstuvwxyz"))) h
    rw [e]; exact hk'
  · have r := rep_all (x.cps.toList.map fun c => D.str ⟨#[c]⟩)
    refine ⟨_, by rw [List.nil_append, r.1], ?_⟩
    rw [r.2]; exact q
theorem ok_is_names (T : Txt K w mg) (C_is_ascending : DFn P w K mg base 1 "is_ascending" "is_ascending" s_is_ascending ["parts"] S_is_ascending) (C_is_name : DFn P w K mg base 1 "is_name" "is_name" s_is_name ["value"] S_is_name) {f : Addr} {fd : FuncData} (F : Fun K "is_names" "is_names" s_is_names f fd) (hm : mg "is_names" = some (.ref f)) : DFn P w K mg base 2 "is_names" "is_names" s_is_names ["value", "fewest", "most"] S_is_names := by
  refine dfn_of F hm sc_is_names fun cdv A ou s H E hg hr => ⟨_, (ds_cons (ds_if (DW.dt (dw_or (dt_not (dt_val (de_isi (T := "tuple") (de_var (pv 0)) rfl T.isinstance rfl T.tuple (by decide +kernel)))) (dw_or1 (dt_not (dt_chain op2_le op2_le (de_var (pv 1)) (de_callB ol_len rfl T.len (by decide +kernel) (da_cons (de_var (pv 0)) da_nil rfl)) (de_var (pv 2))))))) (ds_one (ds_ret de_bl)) ds_nil) (ds_one (ds_ret (de_and (de_callB (ol_all rfl) rfl T.all (by decide +kernel) (da_cons (de_lc (own := [("part", 3)]) (T := (.n 3)) rfl sc_is_names.nd (di_seq (de_var (pv 0))) (blkOk_by (N := N_is_names) (sc := defScope s_is_names) (by decide +kernel)) (by decide) (fun _ _ _ _ _ => (pg_n 3 sc_is_names.nd)) (fun _ _ _ _ _ => dts_nil) (fun _ _ _ _ _ => (de_call C_is_name hg hr (by decide) (fun _ _ _ _ _ _ us hl => match us, hl with | [_], _ => rfl) (da_cons (de_var (pv 3)) da_nil rfl)))) da_nil rfl)) (de_one (de_call C_is_ascending hg hr (by decide) (fun _ _ _ _ _ _ us hl => match us, hl with | [_], _ => rfl) (da_cons (de_var (pv 0)) da_nil rfl))))))), fun ds h k hl hS => ?_⟩
  obtain ⟨xs, lo, hi, rfl, hn, ha, l1, l2, l3, q⟩ := hS
  refine ⟨_, rfl, _, _, rfl, rfl, true, rfl, ifF rfl ?_⟩
  refine ⟨_, rfl, _, rfl, _, _, rfl, rfl, _, rfl, ifT (decide_eq_true (by simpa using l2)) ⟨_, rfl, _, rfl, ifF (by simpa using l3) ?_⟩⟩
  refine ⟨_, rfl, _, rfl, lc_pure (g := fun _ => .bl true) trivial ?_ (szl (by simp; omega)) ?_⟩
  · intro y hy k' hk'
    obtain ⟨x, hx, rfl⟩ := List.mem_map.mp hy
    exact ⟨_, rfl, rfl, x, rfl, hn x hx, hk'⟩
  · have r := rep_all (xs.map D.str)
    refine ⟨_, by rw [List.nil_append, r.1], _, rfl, ?_⟩
    rw [r.2]
    refine ifT rfl ⟨_, rfl, rfl, .inl ⟨xs, _, rfl, .inl rfl, ha, l1, q⟩⟩
theorem ok_is_fields (T : Txt K w mg) (C_is_names : DFn P w K mg base 2 "is_names" "is_names" s_is_names ["value", "fewest", "most"] S_is_names) {f : Addr} {fd : FuncData} (F : Fun K "is_fields" "is_fields" s_is_fields f fd) (hm : mg "is_fields" = some (.ref f)) : DFn P w K mg base 3 "is_fields" "is_fields" s_is_fields ["value"] S_is_fields := by
  refine dfn_of F hm sc_is_fields fun cdv A ou s H E hg hr => ⟨_, (ds_one (ds_ret (de_call C_is_names hg hr (by decide) (fun _ _ _ _ _ _ us hl => match us, hl with | [_, _, _], _ => rfl) (da_cons (de_var (pv 0)) (da_cons de_int (da_cons (de_const rfl T.MOST_FIELDS) da_nil rfl) rfl) rfl)))), fun ds h k hl hS => ?_⟩
  obtain ⟨xs, rfl, hx, q⟩ := hS
  have hl12 := hx.len
  refine ⟨_, rfl, rfl, xs, 0, 12, rfl, hx.nm, hx.asc, by omega, by omega, by omega, q⟩
theorem ok_is_reader (T : Txt K w mg) (C_has_all : DFn P w K mg base 1 "has_all" "has_all" s_has_all ["fields", "wanted"] S_has_all) (C_is_fields : DFn P w K mg base 3 "is_fields" "is_fields" s_is_fields ["value"] S_is_fields) {f : Addr} {fd : FuncData} (F : Fun K "is_reader" "is_reader" s_is_reader f fd) (hm : mg "is_reader" = some (.ref f)) : DFn P w K mg base 4 "is_reader" "is_reader" s_is_reader ["value"] S_is_reader := by
  refine dfn_of F hm sc_is_reader fun cdv A ou s H E hg hr => ⟨_, (ds_cons (ds_if (DW.dt (dw_or (dt_not (dt_val (de_isi (T := "tuple") (de_var (pv 0)) rfl T.isinstance rfl T.tuple (by decide +kernel)))) (dw_or1 (dt_cmp (op2_ne hr) (de_callB ol_len rfl T.len (by decide +kernel) (da_cons (de_var (pv 0)) da_nil rfl)) de_int)))) (ds_one (ds_ret de_bl)) ds_nil) (ds_cons (ds_asg (de_var (pv 0)) (dg_tup rfl (dgs_cons (dg_name 1 sc_is_reader.nd) (dgs_cons (dg_name 2 sc_is_reader.nd) dgs_nil)))) (ds_one (ds_ret (de_and (de_call C_is_fields hg hr (by decide) (fun _ _ _ _ _ _ us hl => match us, hl with | [_], _ => rfl) (da_cons (de_var (pv 1)) da_nil rfl)) (de_and (de_call C_is_fields hg hr (by decide) (fun _ _ _ _ _ _ us hl => match us, hl with | [_], _ => rfl) (da_cons (de_var (pv 2)) da_nil rfl)) (de_one (de_call C_has_all hg hr (by decide) (fun _ _ _ _ _ _ us hl => match us, hl with | [_, _], _ => rfl) (da_cons (de_var (pv 2)) (da_cons (de_var (pv 1)) da_nil rfl) rfl))))))))), fun ds h k hl hS => ?_⟩
  obtain ⟨f, rfl, hf, q⟩ := hS
  have l1 := hf.nd.len
  refine ⟨_, rfl, _, _, rfl, rfl, true, rfl, ifF rfl ?_⟩
  refine ⟨_, rfl, _, _, rfl, rfl, .inr trivial, _, rfl, ifF rfl ?_⟩
  refine ⟨_, rfl, _, rfl, rfl, _, _, rfl, _, _, rfl, rfl, ?_⟩
  refine ⟨_, rfl, rfl, _, rfl, hf.nd, true, rfl, ifT rfl ?_⟩
  refine ⟨_, rfl, rfl, _, rfl, hf.kn, true, rfl, ifT rfl ?_⟩
  refine ⟨_, rfl, _, rfl, rfl, f.kn, f.nd, rfl, hf.kn.okN.s, hf.nd.okN.s, by omega, ?_⟩
  have e : (f.nd.all fun x => decide (x ∈ f.kn)) = true := by
    rw [List.all_eq_true]; exact fun x hx => decide_eq_true (hf.nk x hx)
  rw [e]; exact q
theorem ok_is_format (T : Txt K w mg) (C_accepts : DFn P w K mg base 2 "accepts" "accepts" s_accepts ["reader", "written"] S_accepts) (C_is_reader : DFn P w K mg base 4 "is_reader" "is_reader" s_is_reader ["value"] S_is_reader) (C_is_fields : DFn P w K mg base 3 "is_fields" "is_fields" s_is_fields ["value"] S_is_fields) {f : Addr} {fd : FuncData} (F : Fun K "is_format" "is_format" s_is_format f fd) (hm : mg "is_format" = some (.ref f)) : DFn P w K mg base 5 "is_format" "is_format" s_is_format ["value"] S_is_format := by
  refine dfn_of F hm sc_is_format fun cdv A ou s H E hg hr => ⟨_, (ds_cons (ds_if (DW.dt (dw_or (dt_not (dt_val (de_isi (T := "tuple") (de_var (pv 0)) rfl T.isinstance rfl T.tuple (by decide +kernel)))) (dw_or1 (dt_cmp (op2_ne hr) (de_callB ol_len rfl T.len (by decide +kernel) (da_cons (de_var (pv 0)) da_nil rfl)) de_int)))) (ds_one (ds_ret de_bl)) ds_nil) (ds_cons (ds_set 1 sc_is_format.nd (de_ix (de_var (pv 0)) de_int)) (ds_cons (ds_set 2 sc_is_format.nd (de_slice (de_var (pv 0)) (do_some de_int) do_none)) (ds_one (ds_ret (de_and (de_call C_is_fields hg hr (by decide) (fun _ _ _ _ _ _ us hl => match us, hl with | [_], _ => rfl) (da_cons (de_var (pv 1)) da_nil rfl)) (de_and (de_call C_is_reader hg hr (by decide) (fun _ _ _ _ _ _ us hl => match us, hl with | [_], _ => rfl) (da_cons (de_var (pv 2)) da_nil rfl)) (de_one (de_call C_accepts hg hr (by decide) (fun _ _ _ _ _ _ us hl => match us, hl with | [_, _], _ => rfl) (da_cons (de_var (pv 2)) (da_cons (de_var (pv 1)) da_nil rfl) rfl)))))))))), fun ds h k hl hS => ?_⟩
  obtain ⟨f, rfl, hf, q⟩ := hS
  refine ⟨_, rfl, _, _, rfl, rfl, true, rfl, ifF rfl ?_⟩
  refine ⟨_, rfl, _, _, rfl, rfl, .inr trivial, _, rfl, ifF rfl ?_⟩
  refine ⟨_, rfl, _, rfl, ?_⟩
  refine ⟨_, rfl, _, rfl, ?_⟩
  refine ⟨_, rfl, rfl, _, rfl, hf.wr, true, rfl, ifT rfl ?_⟩
  refine ⟨_, rfl, rfl, f, rfl, hf, true, rfl, ifT rfl ?_⟩
  refine ⟨_, rfl, _, rfl, rfl, f.nd, f.kn, f.wr, rfl, hf.nd.okN, hf.kn.okN, hf.wr.okN, ?_⟩
  rw [acc_iff.mpr ⟨hf.nw, hf.wk⟩]; exact q
theorem ok_is_channel (T : Txt K w mg) (C_is_format : DFn P w K mg base 5 "is_format" "is_format" s_is_format ["value"] S_is_format) (C_is_name : DFn P w K mg base 1 "is_name" "is_name" s_is_name ["value"] S_is_name) {f : Addr} {fd : FuncData} (F : Fun K "is_channel" "is_channel" s_is_channel f fd) (hm : mg "is_channel" = some (.ref f)) : DFn P w K mg base 6 "is_channel" "is_channel" s_is_channel ["services", "value"] S_is_channel := by
  refine dfn_of F hm sc_is_channel fun cdv A ou s H E hg hr => ⟨_, (ds_cons (ds_if (DW.dt (dw_or (dt_not (dt_val (de_isi (T := "tuple") (de_var (pv 1)) rfl T.isinstance rfl T.tuple (by decide +kernel)))) (dw_or1 (dt_cmp (op2_ne hr) (de_callB ol_len rfl T.len (by decide +kernel) (da_cons (de_var (pv 1)) da_nil rfl)) de_int)))) (ds_one (ds_ret de_bl)) ds_nil) (ds_cons (ds_asg (de_var (pv 1)) (dg_tup rfl (dgs_cons (dg_name 2 sc_is_channel.nd) (dgs_cons (dg_name 3 sc_is_channel.nd) (dgs_cons (dg_name 4 sc_is_channel.nd) (dgs_cons (dg_name 5 sc_is_channel.nd) (dgs_cons (dg_name 6 sc_is_channel.nd) dgs_nil))))))) (ds_one (ds_ret (de_and (de_call C_is_name hg hr (by decide) (fun _ _ _ _ _ _ us hl => match us, hl with | [_], _ => rfl) (da_cons (de_var (pv 2)) da_nil rfl)) (de_and (de_cmp (op2_in hr) (de_var (pv 3)) (de_var (pv 0))) (de_and (de_cmp (op2_in hr) (de_var (pv 4)) (de_var (pv 0))) (de_and (de_call C_is_format hg hr (by decide) (fun _ _ _ _ _ _ us hl => match us, hl with | [_], _ => rfl) (da_cons (de_var (pv 5)) da_nil rfl)) (de_one (de_call C_is_format hg hr (by decide) (fun _ _ _ _ _ _ us hl => match us, hl with | [_], _ => rfl) (da_cons (de_var (pv 6)) da_nil rfl))))))))))), fun ds h k hl hS => ?_⟩
  obtain ⟨svc, c, rfl, hs, hl12, hc, q⟩ := hS
  have oks : okS svc := fun x hx => (hs x hx).ok
  refine ⟨_, rfl, _, _, rfl, rfl, true, rfl, ifF rfl ?_⟩
  refine ⟨_, rfl, _, _, rfl, rfl, .inr trivial, _, rfl, ifF rfl ?_⟩
  refine ⟨_, rfl, _, rfl, rfl, _, _, rfl, _, _, rfl, _, _, rfl, _, _, rfl, _, _, rfl, rfl, ?_⟩
  refine ⟨_, rfl, rfl, _, rfl, hc.nm, true, rfl, ifT rfl ?_⟩
  refine ⟨_, rfl, _, rfl, ⟨dat_str (hs _ hc.snd).ok, dat_strs oks⟩, ?_⟩
  rw [inD_strs, decide_eq_true hc.snd]
  refine ⟨true, rfl, ifT rfl ?_⟩
  refine ⟨_, rfl, _, rfl, ⟨dat_str (hs _ hc.rcv).ok, dat_strs oks⟩, ?_⟩
  rw [inD_strs, decide_eq_true hc.rcv]
  refine ⟨true, rfl, ifT rfl ?_⟩
  refine ⟨_, rfl, rfl, _, rfl, hc.old, true, rfl, ifT rfl ?_⟩
  exact ⟨_, rfl, rfl, _, rfl, hc.new, q⟩
theorem ok_is_channels (T : Txt K w mg) (C_is_ascending : DFn P w K mg base 1 "is_ascending" "is_ascending" s_is_ascending ["parts"] S_is_ascending) (C_is_channel : DFn P w K mg base 6 "is_channel" "is_channel" s_is_channel ["services", "value"] S_is_channel) {f : Addr} {fd : FuncData} (F : Fun K "is_channels" "is_channels" s_is_channels f fd) (hm : mg "is_channels" = some (.ref f)) : DFn P w K mg base 7 "is_channels" "is_channels" s_is_channels ["services", "value"] S_is_channels := by
  refine dfn_of F hm sc_is_channels fun cdv A ou s H E hg hr => ⟨_, (ds_cons (ds_if (DW.dt (dw_or (dt_not (dt_val (de_isi (T := "tuple") (de_var (pv 1)) rfl T.isinstance rfl T.tuple (by decide +kernel)))) (dw_or1 (dt_cmp op2_gt (de_callB ol_len rfl T.len (by decide +kernel) (da_cons (de_var (pv 1)) da_nil rfl)) (de_const rfl T.MOST_CHANNELS))))) (ds_one (ds_ret de_bl)) ds_nil) (ds_cons (ds_if (dt_not (dt_val (de_callB (ol_all rfl) rfl T.all (by decide +kernel) (da_cons (de_lc (own := [("part", 2)]) (T := (.n 2)) rfl sc_is_channels.nd (di_seq (de_var (pv 1))) (blkOk_by (N := N_is_channels) (sc := defScope s_is_channels) (by decide +kernel)) (by decide) (fun _ _ _ _ _ => (pg_n 2 sc_is_channels.nd)) (fun _ _ _ _ _ => dts_nil) (fun _ _ _ _ _ => (de_call C_is_channel hg hr (by decide) (fun _ _ _ _ _ _ us hl => match us, hl with | [_, _], _ => rfl) (da_cons (de_var (pv 0)) (da_cons (de_var (pv 2)) da_nil rfl) rfl)))) da_nil rfl)))) (ds_one (ds_ret de_bl)) ds_nil) (ds_one (ds_ret (de_call C_is_ascending hg hr (by decide) (fun _ _ _ _ _ _ us hl => match us, hl with | [_], _ => rfl) (da_cons (de_lc (own := [("channel", 3)]) (T := (.n 3)) rfl sc_is_channels.nd (di_seq (de_var (pv 1))) (blkOk_by (N := N_is_channels) (sc := defScope s_is_channels) (by decide +kernel)) (by decide) (fun _ _ _ _ _ => (pg_n 3 sc_is_channels.nd)) (fun _ _ _ _ _ => dts_nil) (fun _ _ _ _ _ => (de_ix (de_var (pv 3)) de_int))) da_nil rfl)))))), fun ds h k hl hS => ?_⟩
  obtain ⟨svc, cs, rfl, hs, q⟩ := hS
  have l40 := hs.l40
  refine ⟨_, rfl, _, _, rfl, rfl, true, rfl, ifF rfl ?_⟩
  refine ⟨_, rfl, _, _, rfl, rfl, _, rfl, ifF (decide_eq_false (by simp; omega)) ?_⟩
  refine ⟨_, rfl, _, rfl, lc_pure (g := fun _ => .bl true) trivial ?_ (szl (by simp; omega)) ?_⟩
  · intro y hy k' hk'
    obtain ⟨c, hc, rfl⟩ := List.mem_map.mp hy
    exact ⟨_, rfl, _, rfl, rfl, svc, c, rfl, hs.nm, hs.l12, hs.ch c hc, hk'⟩
  have r := rep_all (cs.map Chan.d)
  refine ⟨_, by rw [List.nil_append, r.1], _, rfl, ?_⟩
  rw [r.2]
  refine ifF rfl ?_
  refine ⟨_, rfl, _, rfl, lc_pure (g := fun x => match x with | .tup (y :: _) => y | _ => .non) trivial ?_ (szl (by simp; omega)) ?_⟩
  · intro y hy k' hk'
    obtain ⟨c, hc, rfl⟩ := List.mem_map.mp hy
    exact ⟨_, rfl, _, rfl, hk'⟩
  refine ⟨rfl, .inl ⟨cs.map Chan.nm, _, rfl, .inr ?_, hs.casc, by simp; omega, q⟩⟩
  rw [List.nil_append, List.map_map, List.map_map]; rfl
theorem ok_System___init__ (T : Txt K w mg) (C_is_channels : DFn P w K mg base 7 "is_channels" "is_channels" s_is_channels ["services", "value"] S_is_channels) (C_is_names : DFn P w K mg base 2 "is_names" "is_names" s_is_names ["value", "fewest", "most"] S_is_names) {C f : Addr} {fd : FuncData} (nC : PySem.W.nsIn K mainGlobals "System" = some (some (.ref C))) (mC : mg "System" = some (.ref C)) (M : Mk K C f) (F : Fun K "__init__" "System.__init__" s_System___init__ f fd) : DInit P w K mg base 8 "System" "System.__init__" s_System___init__ ["self", "services", "channels"] S_System___init__ := by
  refine ⟨C, f, fd, nC, mC, M, F, ?_⟩
  refine fnD_of F sc_System___init__ fun cdv A ou s H E hg hr => ⟨_, (ds_cons (ds_if (dt_not (dt_val (de_call C_is_names hg hr (by decide) (fun _ _ _ _ _ _ us hl => match us, hl with | [_, _, _], _ => rfl) (da_cons (de_var (pv 1)) (da_cons de_int (da_cons (de_const rfl T.MOST_SERVICES) da_nil rfl) rfl) rfl)))) (ds_one ds_dead) ds_nil) (ds_cons (ds_if (dt_not (dt_val (de_call C_is_channels hg hr (by decide) (fun _ _ _ _ _ _ us hl => match us, hl with | [_, _], _ => rfl) (da_cons (de_var (pv 1)) (da_cons (de_var (pv 2)) da_nil rfl) rfl)))) (ds_one ds_dead) ds_nil) (ds_cons (ds_setF T.cf_System (by decide +kernel) (de_var (pv 0)) (de_var (pv 1))) (ds_one (ds_setF T.cf_System (by decide +kernel) (de_var (pv 0)) (de_var (pv 2))))))), fun ds h k hl hS => ?_⟩
  obtain ⟨n, svc, cs, rfl, hs, hn, q⟩ := hS
  have l1 := hs.l1
  have l12 := hs.l12
  have hlt := (List.getElem?_eq_some_iff.mp hn).1
  refine ⟨_, rfl, rfl, svc, 1, 12, rfl, hs.nm, hs.asc, by omega, by omega, by omega, true, rfl, ifF rfl ?_⟩
  refine ⟨_, rfl, _, rfl, rfl, svc, cs, rfl, hs, true, rfl, ifF rfl ?_⟩
  refine ⟨_, rfl, _, rfl, n, _, _, rfl, hn, by decide, ?_⟩
  refine ⟨_, rfl, _, rfl, n, _, _, rfl, List.getElem?_set_self hlt, by decide, ?_⟩
  rw [List.set_set]
  exact q
theorem ok__law_more (T : Txt K w mg) {f : Addr} {fd : FuncData} (F : Fun K "_law_more" "_law_more" s__law_more f fd) (hm : mg "_law_more" = some (.ref f)) : DFn P w K mg base 1 "_law_more" "_law_more" s__law_more ["_law_form", "_law_extra"] S__law_more := by
  refine dfn_of F hm sc__law_more fun cdv A ou s H E hg hr => ⟨_, (ds_one (ds_ret (de_callTy ol_tuple rfl T.tuple (by decide +kernel) (da_cons (de_lc (own := [("_law_at", 2)]) (T := (.n 2)) rfl sc__law_more.nd (di_range1 rfl T.range (da_cons de_int da_nil rfl)) (blkOk_by (N := N__law_more) (sc := defScope s__law_more) (by decide +kernel)) (by decide) (fun _ _ _ _ _ => (pg_n 2 sc__law_more.nd)) (fun _ _ _ _ _ => dts_nil) (fun _ _ _ _ _ => (de_callTy ol_tuple rfl T.tuple (by decide +kernel) (da_cons (de_callB (ol_sortedW (w := w) rfl rfl) rfl T.sorted (by decide +kernel) (da_cons (de_callTy (ol_setW (w := w) rfl rfl) rfl T.set (by decide +kernel) (da_cons (de_bin op2_add (de_ix (de_var (pv 0)) (de_var (pv 2))) (de_var (pv 1))) da_nil rfl)) da_nil rfl)) da_nil rfl)))) da_nil rfl)))), fun ds h k hl hS => ?_⟩
  obtain ⟨f, ex, rfl, hf, hx, lx, q⟩ := hS
  have l1 := hf.l1
  have l2 := hf.l2
  have l3 := hf.l3
  refine ⟨3, rfl, ⟨by decide, by decide⟩, ?_⟩
  show lcGo _ _ _ _ _ _ (dints 0 (3 : Int).toNat) [] h
  rw [dints3]
  refine ⟨trivial, _, rfl, _, rfl, _, rfl, _, rfl, _, rfl, szl (by simp; omega), f.wr ++ ex, .inl (by simp), (by show _ + 1 < 4096; simp; omega), .inr ⟨_, rfl, fun y1 s1 n1 m1 z1 => .inr ⟨_, rfl, szlt (by simp), ?_⟩⟩⟩
  refine ⟨trivial, _, rfl, _, rfl, _, rfl, _, rfl, _, rfl, szl (by simp; omega), f.nd ++ ex, .inl (by simp), (by show _ + 1 < 4096; simp; omega), .inr ⟨_, rfl, fun y2 s2 n2 m2 z2 => .inr ⟨_, rfl, szlt (by simp), ?_⟩⟩⟩
  refine ⟨trivial, _, rfl, _, rfl, _, rfl, _, rfl, _, rfl, szl (by simp; omega), f.kn ++ ex, .inl (by simp), (by show _ + 1 < 4096; simp; omega), .inr ⟨_, rfl, fun y3 s3 n3 m3 z3 => .inr ⟨_, rfl, szlt (by simp), ?_⟩⟩⟩
  exact ⟨trivial, .inr ⟨_, rfl, q ⟨y1, y2, y3⟩ (more_ok hf hx lx s1 n1 m1 z1 s2 n2 m2 z2 s3 n3 m3 z3)⟩⟩
theorem ok__law_take (T : Txt K w mg) {f : Addr} {fd : FuncData} (F : Fun K "_law_take" "_law_take" s__law_take f fd) (hm : mg "_law_take" = some (.ref f)) : DFn P w K mg base 1 "_law_take" "_law_take" s__law_take ["_law_urn_here", "_law_below"] S__law_take := by
  refine dfn_of F hm sc__law_take fun cdv A ou s H E hg hr => ⟨_, (ds_cons (ds_if (dt_cmp op2_gt (de_ix (de_var (pv 0)) de_int) de_int) (ds_cons (ds_set 2 sc__law_take.nd (de_bin op2_mod (de_ix (de_var (pv 0)) de_int) (de_var (pv 1)))) (ds_cons (ds_asg (de_bin op2_fdiv (de_ix (de_var (pv 0)) de_int) (de_var (pv 1))) (dg_sub (de_var (pv 0)) de_int set_listD)) (ds_one (ds_ret (de_var (pv 2)))))) ds_nil) (ds_cons (ds_asg (de_bin op2_mod (de_bin op2_add (de_bin op2_mulT (de_ix (de_var (pv 0)) de_int) de_int) de_int) de_int) (dg_sub (de_var (pv 0)) de_int set_listD)) (ds_one (ds_ret (de_bin op2_mod (de_bin op2_fdiv (de_bin op2_mod (de_bin op2_mulT (de_bin op2_fdiv (de_ix (de_var (pv 0)) de_int) de_int) (de_bin op2_add (de_bin op2_mod (de_ix (de_var (pv 0)) de_int) de_int) de_int)) de_int) de_int) (de_var (pv 1))))))), fun ds h k hl hS => ?_⟩
  obtain ⟨u, n, rfl, hu, h0, h64, q⟩ := hS
  obtain ⟨a, b, e, a0, a1, b0, b1⟩ := id hu
  have hn : n.natAbs < 2 ^ 64 := by omega
  have hdn : CDivW a n := wide_div h0 hn (by decide) (by decide)
  refine ⟨_, rfl, _, _, e, atI_zero _ _, _, rfl, ?_⟩
  by_cases hp : (0 : Int) < a
  · refine ifT (decide_eq_true hp) ?_
    refine ⟨_, rfl, _, _, e, atI_zero _ _, _, rfl, h0, _, rfl, _, _, e, atI_zero _ _, _, rfl, hdn, _, rfl, u, _, _, _, rfl, rfl, e, ixN_zero (by simp), _, rfl, ?_⟩
    have d0 : 0 ≤ a / n := Int.ediv_nonneg a0 (Int.le_of_lt h0)
    have d1 : a / n < urnA := by
      have := Int.ediv_le_self n a0
      omega
    exact q (a % n) _ (Int.emod_nonneg _ (by omega)) (Int.emod_lt_of_pos _ h0) (UM.set hu d0 d1 b0 b1)
  · refine ifF (decide_eq_false hp) ?_
    have hB : urnB = 2305843009213693951 := rfl
    have bb : b.natAbs < 2 ^ 64 := by omega
    have c0 := Int.emod_nonneg (b * 1181783497276652981 + 12345678910987) (b := 2305843009213693951) (by decide)
    have c1 := Int.emod_lt_of_pos (b * 1181783497276652981 + 12345678910987) (b := 2305843009213693951) (by decide)
    refine ⟨_, rfl, _, _, e, atI_one _ _ _, .inl ⟨wide_mul bb (by decide : (1181783497276652981 : Int).natAbs < 2 ^ 64) (by decide) (by decide) (by decide), (by show (0 : Int) < 2305843009213693951; decide), _, rfl, u, _, _, _, rfl, rfl, e, ixN_one (by simp), ?_⟩⟩
    have e2 : ∀ c : Int, (h.set u (.lst [.int a, .int c]))[u]? = some (.lst [.int a, .int c]) := fun c => List.getElem?_set_self (List.getElem?_eq_some_iff.mp e).1
    have hu2 : UM u h (h.set u (.lst [.int a, .int ((b * 1181783497276652981 + 12345678910987) % 2305843009213693951)])) := UM.set hu a0 a1 c0 c1
    have aux : ∀ c : Int, 0 ≤ c → c < 2305843009213693951 → CMulW (c / 65537) (c % 65537 + 3) := fun c c0 c1 => by
      have d1 : 0 ≤ c / 65537 := Int.ediv_nonneg c0 (by decide)
      have d2 : c / 65537 ≤ c := Int.ediv_le_self _ c0
      have d3 := Int.emod_nonneg c (b := 65537) (by decide)
      have d4 := Int.emod_lt_of_pos c (b := 65537) (by decide)
      exact wide_mul (a := 64) (b := 64) (by omega) (by omega) (by decide) (by decide) (by decide)
    refine ⟨_, rfl, _, _, e2 _, atI_one _ _ _, wide_div (by decide) (by decide : (65537 : Int).natAbs < 2 ^ 17) (by decide) (by decide), _, rfl, _, _, e2 _, atI_one _ _ _, (by show (0 : Int) < 65537; decide), .inl ⟨aux _ c0 c1, (by show (0 : Int) < 2305843009213693921; decide), wide_div (by decide) (by decide : (97 : Int).natAbs < 2 ^ 17) (by decide) (by decide), _, rfl, h0, ?_⟩⟩
    exact q _ _ (Int.emod_nonneg _ (by omega)) (Int.emod_lt_of_pos _ h0) hu2
theorem ok__law_of (T : Txt K w mg) (C__law_take : DFn P w K mg base 1 "_law_take" "_law_take" s__law_take ["_law_urn_here", "_law_below"] S__law_take) {f : Addr} {fd : FuncData} (F : Fun K "_law_of" "_law_of" s__law_of f fd) (hm : mg "_law_of" = some (.ref f)) : DFn P w K mg base 2 "_law_of" "_law_of" s__law_of ["_law_urn_here", "_law_items"] S__law_of := by
  refine dfn_of F hm sc__law_of fun cdv A ou s H E hg hr => ⟨_, (ds_one (ds_ret (de_ix (de_var (pv 1)) (de_call C__law_take hg hr (by decide) (fun _ _ _ _ _ _ us hl => match us, hl with | [_, _], _ => rfl) (da_cons (de_var (pv 0)) (da_cons (de_callB ol_len rfl T.len (by decide +kernel) (da_cons (de_var (pv 1)) da_nil rfl)) da_nil rfl) rfl))))), fun ds h k hl hS => ?_⟩
  obtain ⟨u, d, xs, rfl, hu, hd, l0, l1, q⟩ := hS
  rcases hd with rfl | rfl | ⟨z, rfl, rfl⟩
  · refine ⟨_, rfl, _, rfl, _, rfl, _, _, rfl, rfl, rfl, u, _, rfl, hu, by omega, by omega, fun r h' r0 r1 um => ?_⟩
    obtain ⟨x, hx, ex⟩ := atI_mem (xs := xs) r0 (by omega)
    exact ⟨x, ex, q x hx h' um⟩
  · refine ⟨_, rfl, _, rfl, _, rfl, _, _, rfl, rfl, rfl, u, _, rfl, hu, by omega, by omega, fun r h' r0 r1 um => ?_⟩
    obtain ⟨x, hx, ex⟩ := atI_mem (xs := xs) r0 (by omega)
    exact ⟨x, ex, q x hx h' um⟩
  · have hz : z.length = z.cps.toList.length := by simp [Str.length]
    simp only [List.length_map] at l0 l1
    have hs : z.length ≤ sizeLine := szl (by omega)
    refine ⟨_, rfl, _, rfl, _, rfl, _, _, rfl, ⟨hs, rfl⟩, rfl, u, _, rfl, hu, by omega, by omega, fun r h' r0 r1 um => ?_⟩
    obtain ⟨c, hc, ex⟩ := atI_mem (xs := z.cps.toList) r0 (by omega)
    exact ⟨hs, c, ex, q _ (List.mem_map.mpr ⟨c, hc, rfl⟩) h' um⟩
theorem ok__law_some (T : Txt K w mg) (C__law_take : DFn P w K mg base 1 "_law_take" "_law_take" s__law_take ["_law_urn_here", "_law_below"] S__law_take) {f : Addr} {fd : FuncData} (F : Fun K "_law_some" "_law_some" s__law_some f fd) (hm : mg "_law_some" = some (.ref f)) : DFn P w K mg base 2 "_law_some" "_law_some" s__law_some ["_law_urn_here", "_law_items", "_law_share"] S__law_some := by
  refine dfn_of F hm sc__law_some fun cdv A ou s H E hg hr => ⟨_, (ds_one (ds_ret (de_callTy ol_tuple rfl T.tuple (by decide +kernel) (da_cons (de_lc (own := [("_law_item", 3)]) (T := (.n 3)) rfl sc__law_some.nd (di_seq (de_var (pv 1))) (blkOk_by (N := N__law_some) (sc := defScope s__law_some) (by decide +kernel)) (by decide) (fun _ _ _ _ _ => (pg_n 3 sc__law_some.nd)) (fun _ _ _ _ _ => (dts_one (dt_cmp (op2_eq hr) (de_call C__law_take hg hr (by decide) (fun _ _ _ _ _ _ us hl => match us, hl with | [_, _], _ => rfl) (da_cons (de_var (pv 0)) (da_cons (de_var (pv 2)) da_nil rfl) rfl)) de_int))) (fun _ _ _ _ _ => (de_var (pv 3)))) da_nil rfl)))), fun ds h k hl hS => ?_⟩
  obtain ⟨u, xs, n, e, hu, n0, n1, l1, q⟩ := hS
  rcases e with rfl | rfl
  · refine ⟨_, rfl, _, rfl, lc_sub (fun h' => UM u h h') (fun _ _ => trivial) ?_ ?_ (UM.refl hu) (szl (by simp; omega)) ?_⟩
    · intro x h1 um k' hk
      refine ⟨_, rfl, _, rfl, rfl, u, n, rfl, um.urn, n0, by omega, fun r h' r0 r1 um' => ⟨.inr trivial, _, rfl, hk _ h' (um.trans um')⟩⟩
    · intro x h1 um k' hk
      exact ⟨_, rfl, hk⟩
    · intro out h' um hs
      exact .inr ⟨_, rfl, q out h' hs um⟩
  · refine ⟨_, rfl, _, rfl, lc_sub (fun h' => UM u h h') (fun _ _ => trivial) ?_ ?_ (UM.refl hu) (szl (by simp; omega)) ?_⟩
    · intro x h1 um k' hk
      refine ⟨_, rfl, _, rfl, rfl, u, n, rfl, um.urn, n0, by omega, fun r h' r0 r1 um' => ⟨.inr trivial, _, rfl, hk _ h' (um.trans um')⟩⟩
    · intro x h1 um k' hk
      exact ⟨_, rfl, hk⟩
    · intro out h' um hs
      exact .inr ⟨_, rfl, q out h' hs um⟩
theorem ok__law_loose (T : Txt K w mg) (C__law_some : DFn P w K mg base 2 "_law_some" "_law_some" s__law_some ["_law_urn_here", "_law_items", "_law_share"] S__law_some) (C__law_of : DFn P w K mg base 2 "_law_of" "_law_of" s__law_of ["_law_urn_here", "_law_items"] S__law_of) {f : Addr} {fd : FuncData} (F : Fun K "_law_loose" "_law_loose" s__law_loose f fd) (hm : mg "_law_loose" = some (.ref f)) : DFn P w K mg base 3 "_law_loose" "_law_loose" s__law_loose ["_law_urn_here"] S__law_loose := by
  refine dfn_of F hm sc__law_loose fun cdv A ou s H E hg hr => ⟨_, (ds_cons (ds_set 1 sc__law_loose.nd (de_call C__law_some hg hr (by decide) (fun _ _ _ _ _ _ us hl => match us, hl with | [_, _, _], _ => rfl) (da_cons (de_var (pv 0)) (da_cons (de_tup (da_cons de_str (da_cons de_str (da_cons de_str da_nil rfl) rfl) rfl)) (da_cons (de_call C__law_of hg hr (by decide) (fun _ _ _ _ _ _ us hl => match us, hl with | [_, _], _ => rfl) (da_cons (de_var (pv 0)) (da_cons (de_lst (da_cons de_int (da_cons de_int (da_cons de_int da_nil rfl) rfl) rfl)) da_nil rfl) rfl)) da_nil rfl) rfl) rfl))) (ds_cons (ds_set 2 sc__law_loose.nd (de_call C__law_some hg hr (by decide) (fun _ _ _ _ _ _ us hl => match us, hl with | [_, _, _], _ => rfl) (da_cons (de_var (pv 0)) (da_cons (de_var (pv 1)) (da_cons (de_call C__law_of hg hr (by decide) (fun _ _ _ _ _ _ us hl => match us, hl with | [_, _], _ => rfl) (da_cons (de_var (pv 0)) (da_cons (de_lst (da_cons de_int (da_cons de_int da_nil rfl) rfl)) da_nil rfl) rfl)) da_nil rfl) rfl) rfl))) (ds_one (ds_ret (de_tup (da_cons (de_var (pv 2)) (da_cons (de_call C__law_some hg hr (by decide) (fun _ _ _ _ _ _ us hl => match us, hl with | [_, _, _], _ => rfl) (da_cons (de_var (pv 0)) (da_cons (de_var (pv 2)) (da_cons (de_call C__law_of hg hr (by decide) (fun _ _ _ _ _ _ us hl => match us, hl with | [_, _], _ => rfl) (da_cons (de_var (pv 0)) (da_cons (de_lst (da_cons de_int (da_cons de_int (da_cons de_int da_nil rfl) rfl) rfl)) da_nil rfl) rfl)) da_nil rfl) rfl) rfl)) (da_cons (de_var (pv 1)) da_nil rfl) rfl) rfl)))))), fun ds h k hl hS => ?_⟩
  obtain ⟨u, rfl, hu, q⟩ := hS
  refine ⟨_, rfl, szl (by simp), _, rfl, szl (by simp), rfl, u, _, [.int 1, .int 2, .int 2], rfl, hu, .inl rfl, by simp, by simp, fun sh hsh h1 um1 => ?_⟩
  obtain ⟨s1, hs1, rfl⟩ := shareOf (l := [1, 2, 2]) hsh
  have b1 : 0 < s1 ∧ s1 < 1000 := by simp at hs1; omega
  refine ⟨rfl, u, ([Str.ofString "a", Str.ofString "bb", Str.ofString "c"] : List Str).map .str, s1, .inl rfl, um1.urn, b1.1, b1.2, by simp, fun ys h2 sub2 um2 => ?_⟩
  obtain ⟨ks, subK, rfl⟩ := List.sublist_map_iff.mp sub2
  have lk : ks.length ≤ 3 := by have := subK.length_le; simpa using this
  have um02 := um1.trans um2
  refine ⟨_, rfl, _, rfl, _, rfl, szl (by simp), rfl, u, _, [.int 1, .int 2], rfl, um02.urn, .inl rfl, by simp, by simp, fun sh hsh h3 um3 => ?_⟩
  obtain ⟨s2, hs2, rfl⟩ := shareOf (l := [1, 2]) hsh
  have b2 : 0 < s2 ∧ s2 < 1000 := by simp at hs2; omega
  refine ⟨rfl, u, _, s2, .inl rfl, um3.urn, b2.1, b2.2, by simp; omega, fun ys h4 sub4 um4 => ?_⟩
  obtain ⟨ws, subW, rfl⟩ := List.sublist_map_iff.mp sub4
  have lw : ws.length ≤ 3 := by have := subW.length_le; omega
  have um04 := (um02.trans um3).trans um4
  refine ⟨_, rfl, _, rfl, _, rfl, _, rfl, szl (by simp), rfl, u, _, [.int 1, .int 2, .int 2], rfl, um04.urn, .inl rfl, by simp, by simp, fun sh hsh h5 um5 => ?_⟩
  obtain ⟨s3, hs3, rfl⟩ := shareOf (l := [1, 2, 2]) hsh
  have b3 : 0 < s3 ∧ s3 < 1000 := by simp at hs3; omega
  refine ⟨rfl, u, _, s3, .inl rfl, um5.urn, b3.1, b3.2, by simp; omega, fun ys h6 sub6 um6 => ?_⟩
  obtain ⟨ns, subN, rfl⟩ := List.sublist_map_iff.mp sub6
  have ln : ns.length ≤ 3 := by have := subN.length_le; omega
  refine ⟨_, rfl, szl (by simp), q ⟨ws, ns, ks⟩ h6 ?_ ((um04.trans um5).trans um6)⟩
  have okf : ∀ {l : List Str}, l.Sublist [Str.ofString "a", Str.ofString "bb", Str.ofString "c"] → l.length ≤ 3 → OkF l := fun s l3 => ⟨fun x hx => abc3.1 x (s.subset hx), abc3.2.sub s, by omega⟩
  exact ⟨okf (subW.trans subK) lw, okf (subN.trans (subW.trans subK)) ln, okf subK lk, fun x hx => subW.subset (subN.subset hx), fun x hx => subN.subset hx, fun x hx => subW.subset hx⟩
theorem ok__law_pair (T : Txt K w mg) (C__law_more : DFn P w K mg base 1 "_law_more" "_law_more" s__law_more ["_law_form", "_law_extra"] S__law_more) (C__law_of : DFn P w K mg base 2 "_law_of" "_law_of" s__law_of ["_law_urn_here", "_law_items"] S__law_of) (C__law_take : DFn P w K mg base 1 "_law_take" "_law_take" s__law_take ["_law_urn_here", "_law_below"] S__law_take) (C__law_loose : DFn P w K mg base 3 "_law_loose" "_law_loose" s__law_loose ["_law_urn_here"] S__law_loose) {f : Addr} {fd : FuncData} (F : Fun K "_law_pair" "_law_pair" s__law_pair f fd) (hm : mg "_law_pair" = some (.ref f)) : DFn P w K mg base 4 "_law_pair" "_law_pair" s__law_pair ["_law_urn_here", "_law_kind_here"] S__law_pair := by
  refine dfn_of F hm sc__law_pair fun cdv A ou s H E hg hr => ⟨_, (ds_cons (ds_if (dt_cmp (op2_eq hr) (de_var (pv 1)) de_str) (ds_one (ds_ret (de_tup (da_cons (de_call C__law_loose hg hr (by decide) (fun _ _ _ _ _ _ us hl => match us, hl with | [_], _ => rfl) (da_cons (de_var (pv 0)) da_nil rfl)) (da_cons (de_call C__law_loose hg hr (by decide) (fun _ _ _ _ _ _ us hl => match us, hl with | [_], _ => rfl) (da_cons (de_var (pv 0)) da_nil rfl)) da_nil rfl) rfl)))) ds_nil) (ds_cons (ds_asg (de_call C__law_of hg hr (by decide) (fun _ _ _ _ _ _ us hl => match us, hl with | [_, _], _ => rfl) (da_cons (de_var (pv 0)) (da_cons (de_lst (da_cons (de_tup (da_cons de_str (da_cons de_str da_nil rfl) rfl)) (da_cons (de_tup (da_cons de_str (da_cons de_str da_nil rfl) rfl)) (da_cons (de_tup (da_cons de_str (da_cons de_str da_nil rfl) rfl)) (da_cons (de_tup (da_cons de_str (da_cons de_str da_nil rfl) rfl)) da_nil rfl) rfl) rfl) rfl)) da_nil rfl) rfl)) (dg_tup rfl (dgs_cons (dg_name 2 sc__law_pair.nd) (dgs_cons (dg_name 3 sc__law_pair.nd) dgs_nil)))) (ds_cons (ds_par 4 5 rfl sc__law_pair.nd (da_cons (de_tup (da_cons (de_var (pv 2)) da_nil rfl)) (da_cons (de_tup (da_cons (de_var (pv 2)) (da_cons (de_var (pv 3)) da_nil rfl) rfl)) da_nil rfl) rfl)) (ds_cons (ds_set 6 sc__law_pair.nd (de_dispM (dps_cons de_str (de_tup (da_cons (de_tup (da_cons (de_var (pv 4)) (da_cons (de_var (pv 4)) (da_cons (de_var (pv 5)) da_nil rfl) rfl) rfl)) (da_cons (de_tup (da_cons (de_var (pv 4)) (da_cons (de_var (pv 4)) (da_cons (de_var (pv 5)) da_nil rfl) rfl) rfl)) da_nil rfl) rfl)) (dps_cons de_str (de_tup (da_cons (de_tup (da_cons (de_var (pv 4)) (da_cons (de_var (pv 4)) (da_cons (de_var (pv 5)) da_nil rfl) rfl) rfl)) (da_cons (de_tup (da_cons (de_var (pv 5)) (da_cons (de_var (pv 4)) (da_cons (de_var (pv 5)) da_nil rfl) rfl) rfl)) da_nil rfl) rfl)) dps_nil)))) (ds_cons (ds_dput hr (de_var (pv 6)) de_str (de_tup (da_cons (de_tup (da_cons (de_var (pv 4)) (da_cons (de_var (pv 4)) (da_cons (de_var (pv 4)) da_nil rfl) rfl) rfl)) (da_cons (de_tup (da_cons (de_var (pv 4)) (da_cons (de_tup da_nil) (da_cons (de_var (pv 5)) da_nil rfl) rfl) rfl)) da_nil rfl) rfl))) (ds_cons (ds_dput hr (de_var (pv 6)) de_str (de_tup (da_cons (de_tup (da_cons (de_var (pv 5)) (da_cons (de_var (pv 4)) (da_cons (de_var (pv 5)) da_nil rfl) rfl) rfl)) (da_cons (de_tup (da_cons (de_var (pv 4)) (da_cons (de_tup da_nil) (da_cons (de_var (pv 5)) da_nil rfl) rfl) rfl)) da_nil rfl) rfl))) (ds_cons (ds_dput hr (de_var (pv 6)) de_str (de_tup (da_cons (de_tup (da_cons (de_var (pv 4)) (da_cons (de_var (pv 4)) (da_cons (de_var (pv 4)) da_nil rfl) rfl) rfl)) (da_cons (de_tup (da_cons (de_var (pv 5)) (da_cons (de_var (pv 4)) (da_cons (de_var (pv 5)) da_nil rfl) rfl) rfl)) da_nil rfl) rfl))) (ds_cons (ds_dput hr (de_var (pv 6)) de_str (de_tup (da_cons (de_tup (da_cons (de_var (pv 4)) (da_cons (de_var (pv 4)) (da_cons (de_var (pv 5)) da_nil rfl) rfl) rfl)) (da_cons (de_tup (da_cons (de_var (pv 5)) (da_cons (de_var (pv 5)) (da_cons (de_var (pv 5)) da_nil rfl) rfl) rfl)) da_nil rfl) rfl))) (ds_cons (ds_dput hr (de_var (pv 6)) de_str (de_tup (da_cons (de_tup (da_cons (de_var (pv 4)) (da_cons (de_var (pv 4)) (da_cons (de_var (pv 4)) da_nil rfl) rfl) rfl)) (da_cons (de_tup (da_cons (de_tup (da_cons (de_var (pv 3)) da_nil rfl)) (da_cons (de_tup (da_cons (de_var (pv 3)) da_nil rfl)) (da_cons (de_tup (da_cons (de_var (pv 3)) da_nil rfl)) da_nil rfl) rfl) rfl)) da_nil rfl) rfl))) (ds_cons (ds_if (DW.dt (dw_and (dt_cmp (op2_eq hr) (de_var (pv 1)) de_str) (dw_and1 (dt_cmp (op2_eq hr) (de_call C__law_take hg hr (by decide) (fun _ _ _ _ _ _ us hl => match us, hl with | [_, _], _ => rfl) (da_cons (de_var (pv 0)) (da_cons de_int da_nil rfl) rfl)) de_int)))) (ds_cons (ds_par 7 8 rfl sc__law_pair.nd (da_cons (de_tup (da_cons (de_tup (da_cons (de_var (pv 4)) (da_cons (de_tup da_nil) (da_cons (de_var (pv 4)) da_nil rfl) rfl) rfl)) (da_cons (de_tup (da_cons (de_tup (da_cons (de_var (pv 3)) da_nil rfl)) (da_cons (de_tup da_nil) (da_cons (de_tup (da_cons (de_var (pv 3)) da_nil rfl)) da_nil rfl) rfl) rfl)) da_nil rfl) rfl)) (da_cons (de_tup (da_cons (de_tup (da_cons (de_var (pv 5)) (da_cons (de_tup (da_cons (de_var (pv 3)) da_nil rfl)) (da_cons (de_var (pv 5)) da_nil rfl) rfl) rfl)) (da_cons (de_tup (da_cons (de_var (pv 4)) (da_cons (de_var (pv 4)) (da_cons (de_var (pv 4)) da_nil rfl) rfl) rfl)) da_nil rfl) rfl)) da_nil rfl) rfl)) (ds_one (ds_dput hr (de_var (pv 6)) de_str (de_call C__law_of hg hr (by decide) (fun _ _ _ _ _ _ us hl => match us, hl with | [_, _], _ => rfl) (da_cons (de_var (pv 0)) (da_cons (de_lst (da_cons (de_var (pv 7)) (da_cons (de_var (pv 8)) da_nil rfl) rfl)) da_nil rfl) rfl))))) ds_nil) (ds_cons (ds_asg (de_dix hr (de_var (pv 6)) (de_var (pv 1))) (dg_tup rfl (dgs_cons (dg_name 9 sc__law_pair.nd) (dgs_cons (dg_name 10 sc__law_pair.nd) dgs_nil)))) (ds_cons (ds_set 11 sc__law_pair.nd (de_call C__law_of hg hr (by decide) (fun _ _ _ _ _ _ us hl => match us, hl with | [_, _], _ => rfl) (da_cons (de_var (pv 0)) (da_cons (de_lst (da_cons (de_tup da_nil) (da_cons (de_tup da_nil) (da_cons (de_tup (da_cons de_str da_nil rfl)) da_nil rfl) rfl) rfl)) da_nil rfl) rfl))) (ds_one (ds_ret (de_tup (da_cons (de_call C__law_more hg hr (by decide) (fun _ _ _ _ _ _ us hl => match us, hl with | [_, _], _ => rfl) (da_cons (de_var (pv 9)) (da_cons (de_var (pv 11)) da_nil rfl) rfl)) (da_cons (de_call C__law_more hg hr (by decide) (fun _ _ _ _ _ _ us hl => match us, hl with | [_, _], _ => rfl) (da_cons (de_var (pv 10)) (da_cons (de_var (pv 11)) da_nil rfl) rfl)) da_nil rfl) rfl)))))))))))))))), fun ds h k hl hS => ?_⟩
  obtain ⟨u, kd, rfl, hu, hk, q⟩ := hS
  refine ⟨_, rfl, .inr trivial, _, rfl, ?_⟩
  rw [dEq_str]
  by_cases c1 : kd = Str.ofString "any"
  · refine ifT (decide_eq_true c1) ⟨_, rfl, rfl, u, rfl, hu, fun f h1 o1 um1 => ⟨_, rfl, rfl, u, rfl, um1.urn, fun g h2 o2 um2 => ⟨szl (by simp), q f g h2 o1 o2 (um1.trans um2).g⟩⟩⟩
  refine ifF (decide_eq_false c1) ?_
  have hk7 : kd ∈ kinds7 := by
    rcases List.mem_cons.mp hk with e | e
    · exact absurd e c1
    · exact e
  refine ⟨_, rfl, szl (by simp), szl (by simp), szl (by simp), szl (by simp), szl (by simp), rfl, u, _, _, rfl, hu, .inl rfl, by simp, by simp, fun x hx h1 um1 => ?_⟩
  obtain ⟨a, b, rfl, ha, hb, hab⟩ := pairs4 hx
  obtain ⟨p1, p2, p3, p4, p5, p6, p7, p8, p9⟩ := shapes7 ha hb hab
  refine ⟨_, rfl, rfl, _, _, rfl, _, _, rfl, rfl, ?_⟩
  refine ⟨_, rfl, szl (by simp), _, rfl, _, rfl, szl (by simp), _, _, rfl, ?_⟩
  have hl1 := um1.len
  have hu1 := hu.lt
  with_reducible refine seq_cut (fun ρ' h' => ρ' = [some (.ref u), some (.str kd), some (.str a), some (.str b), some (.tup [.str a]), some (.tup [.str a, .str b]), some (.ref h1.length), none, none, none, none, none] ∧ ShS h u h1.length h' [Str.ofString "same", Str.ofString "writer"] 2) ?_ ?_
  rotate_left
  · intro nx hnx
    repeat (first | refine ⟨_, rfl, ?_⟩ | refine ⟨szl (by simp), ?_⟩)
    refine ⟨[.inr (Str.ofString "same"), .inr (Str.ofString "writer")], rfl, by decide +kernel, by decide, hnx _ _ ⟨rfl, ?_⟩⟩
    refine ⟨_, _, get_last _ _, ⟨rfl, fun d hd => ?_⟩, by simp, um1.g.trans (UG.push um1.urn _), by omega, hu1, fun x hx => ?_⟩
    · simp only [List.map_cons, List.map_nil, List.mem_cons, List.not_mem_nil, or_false] at hd
      rcases hd with rfl | rfl
      · exact ⟨⟨[a], [a], [a, b]⟩, ⟨[a], [a], [a, b]⟩, rfl, p1, p1⟩
      · exact ⟨⟨[a], [a], [a, b]⟩, ⟨[a, b], [a], [a, b]⟩, rfl, p1, p2⟩
    · simp only [List.mem_cons, List.not_mem_nil, or_false] at hx
      rcases hx with rfl | rfl <;> decide +kernel
  rintro ρ' hN ⟨rfl, s0⟩

  with_reducible refine seq_cut (fun ρ' h' => ρ' = [some (.ref u), some (.str kd), some (.str a), some (.str b), some (.tup [.str a]), some (.tup [.str a, .str b]), some (.ref h1.length), none, none, none, none, none] ∧ ShS h u h1.length h' [Str.ofString "reader", Str.ofString "same", Str.ofString "writer"] 3) ?_ ?_
  rotate_left
  · intro nx hnx
    obtain ⟨ks, ds, e, z, s1⟩ := s0.put (Str.ofString "reader") (v := .tup [Fmt.d ⟨[a], [a], [a]⟩, Fmt.d ⟨[a], [], [a, b]⟩]) ⟨_, _, rfl, p3, p4⟩ (by decide)
    repeat (first | refine ⟨_, rfl, ?_⟩ | refine ⟨szl (by simp), ?_⟩)
    exact ⟨_, ks, ds, .inr (Str.ofString "reader"), rfl, rfl, e, z, hnx _ _ ⟨rfl, s1⟩⟩
  clear s0
  rintro ρ' hN ⟨rfl, s0⟩

  with_reducible refine seq_cut (fun ρ' h' => ρ' = [some (.ref u), some (.str kd), some (.str a), some (.str b), some (.tup [.str a]), some (.tup [.str a, .str b]), some (.ref h1.length), none, none, none, none, none] ∧ ShS h u h1.length h' [Str.ofString "free", Str.ofString "reader", Str.ofString "same", Str.ofString "writer"] 4) ?_ ?_
  rotate_left
  · intro nx hnx
    obtain ⟨ks, ds, e, z, s1⟩ := s0.put (Str.ofString "free") (v := .tup [Fmt.d ⟨[a, b], [a], [a, b]⟩, Fmt.d ⟨[a], [], [a, b]⟩]) ⟨_, _, rfl, p2, p4⟩ (by decide)
    repeat (first | refine ⟨_, rfl, ?_⟩ | refine ⟨szl (by simp), ?_⟩)
    exact ⟨_, ks, ds, .inr (Str.ofString "free"), rfl, rfl, e, z, hnx _ _ ⟨rfl, s1⟩⟩
  clear s0
  rintro ρ' hN ⟨rfl, s0⟩

  with_reducible refine seq_cut (fun ρ' h' => ρ' = [some (.ref u), some (.str kd), some (.str a), some (.str b), some (.tup [.str a]), some (.tup [.str a, .str b]), some (.ref h1.length), none, none, none, none, none] ∧ ShS h u h1.length h' [Str.ofString "reader first", Str.ofString "free", Str.ofString "reader", Str.ofString "same", Str.ofString "writer"] 5) ?_ ?_
  rotate_left
  · intro nx hnx
    obtain ⟨ks, ds, e, z, s1⟩ := s0.put (Str.ofString "reader first") (v := .tup [Fmt.d ⟨[a], [a], [a]⟩, Fmt.d ⟨[a, b], [a], [a, b]⟩]) ⟨_, _, rfl, p3, p2⟩ (by decide)
    repeat (first | refine ⟨_, rfl, ?_⟩ | refine ⟨szl (by simp), ?_⟩)
    exact ⟨_, ks, ds, .inr (Str.ofString "reader first"), rfl, rfl, e, z, hnx _ _ ⟨rfl, s1⟩⟩
  clear s0
  rintro ρ' hN ⟨rfl, s0⟩

  with_reducible refine seq_cut (fun ρ' h' => ρ' = [some (.ref u), some (.str kd), some (.str a), some (.str b), some (.tup [.str a]), some (.tup [.str a, .str b]), some (.ref h1.length), none, none, none, none, none] ∧ ShS h u h1.length h' [Str.ofString "writer first", Str.ofString "reader first", Str.ofString "free", Str.ofString "reader", Str.ofString "same", Str.ofString "writer"] 6) ?_ ?_
  rotate_left
  · intro nx hnx
    obtain ⟨ks, ds, e, z, s1⟩ := s0.put (Str.ofString "writer first") (v := .tup [Fmt.d ⟨[a], [a], [a, b]⟩, Fmt.d ⟨[a, b], [a, b], [a, b]⟩]) ⟨_, _, rfl, p1, p5⟩ (by decide)
    repeat (first | refine ⟨_, rfl, ?_⟩ | refine ⟨szl (by simp), ?_⟩)
    exact ⟨_, ks, ds, .inr (Str.ofString "writer first"), rfl, rfl, e, z, hnx _ _ ⟨rfl, s1⟩⟩
  clear s0
  rintro ρ' hN ⟨rfl, s0⟩

  with_reducible refine seq_cut (fun ρ' h' => ρ' = [some (.ref u), some (.str kd), some (.str a), some (.str b), some (.tup [.str a]), some (.tup [.str a, .str b]), some (.ref h1.length), none, none, none, none, none] ∧ ShS h u h1.length h' [Str.ofString "split", Str.ofString "writer first", Str.ofString "reader first", Str.ofString "free", Str.ofString "reader", Str.ofString "same", Str.ofString "writer"] 7) ?_ ?_
  rotate_left
  · intro nx hnx
    obtain ⟨ks, ds, e, z, s1⟩ := s0.put (Str.ofString "split") (v := .tup [Fmt.d ⟨[a], [a], [a]⟩, Fmt.d ⟨[b], [b], [b]⟩]) ⟨_, _, rfl, p3, p6⟩ (by decide)
    repeat (first | refine ⟨_, rfl, ?_⟩ | refine ⟨szl (by simp), ?_⟩)
    exact ⟨_, ks, ds, .inr (Str.ofString "split"), rfl, rfl, e, z, hnx _ _ ⟨rfl, s1⟩⟩
  clear s0
  rintro ρ' hN ⟨rfl, s0⟩

  with_reducible refine seq_cut (fun ρ' h' => ∃ (m : Nat) (x y : Option D), ρ' = [some (.ref u), some (.str kd), some (.str a), some (.str b), some (.tup [.str a]), some (.tup [.str a, .str b]), some (.ref h1.length), x, y, none, none, none] ∧ ShS h u h1.length h' [Str.ofString "split", Str.ofString "writer first", Str.ofString "reader first", Str.ofString "free", Str.ofString "reader", Str.ofString "same", Str.ofString "writer"] m) ?_ ?_
  · rintro ρ' h' ⟨m, x, y, rfl, sh⟩
    have hx7 : kd ∈ [Str.ofString "split", Str.ofString "writer first", Str.ofString "reader first", Str.ofString "free", Str.ofString "reader", Str.ofString "same", Str.ofString "writer"] := by
      unfold kinds7 at hk7
      simp only [List.mem_cons, List.not_mem_nil, or_false] at hk7 ⊢
      rcases hk7 with e | e | e | e | e | e | e <;> simp [e]
    obtain ⟨ks, ds, d, e1, e2, f, g, rfl, of, og⟩ := sh.get hx7
    refine ⟨_, rfl, _, rfl, ks, ds, .inr kd, _, .inr ⟨_, rfl, e1⟩, rfl, e2, _, rfl, rfl, _, _, rfl, _, _, rfl, rfl, ?_⟩
    refine ⟨_, rfl, szl (by simp), szl (by simp), szl (by simp), szl (by simp), rfl, u, _, _, rfl, sh.ug.urn, .inl rfl, by simp, by simp, fun x hx h2 um2 => ?_⟩
    obtain ⟨ex, rfl, hx1, lx⟩ := zzs hx
    refine ⟨_, rfl, _, rfl, rfl, f, ex, rfl, of, hx1, lx, fun f' of' => ⟨_, rfl, _, rfl, rfl, g, ex, rfl, og, hx1, lx, fun g' og' => ⟨szl (by simp), ?_⟩⟩⟩
    exact q f' g' h2 of' og' (sh.ug.trans um2.g)
  intro nx hnx
  refine ⟨_, rfl, .inr trivial, _, rfl, ?_⟩
  rw [dEq_str]
  have fin : nx [some (.ref u), some (.str kd), some (.str a), some (.str b), some (.tup [.str a]), some (.tup [.str a, .str b]), some (.ref h1.length), none, none, none, none, none] hN := by
    refine hnx _ _ ⟨7, none, none, rfl, s0⟩
  by_cases c2 : kd = Str.ofString "split"
  · refine ifT (decide_eq_true c2) ⟨_, rfl, rfl, u, 2, rfl, s0.ug.urn, by decide, by decide, fun r h2 r0 r1 um2 => ⟨.inr trivial, _, rfl, ?_⟩⟩
    have s6 := s0.um um2
    by_cases c3 : dEq (.int r) (.int 1) = true
    · refine ifT c3 ?_
      repeat (first | refine ⟨_, rfl, ?_⟩ | refine ⟨szl (by simp), ?_⟩)
      refine ⟨_, _, rfl, ?_⟩
      refine ⟨_, rfl, _, rfl, _, rfl, szl (by simp), rfl, u, _, [.tup [Fmt.d ⟨[a], [], [a]⟩, Fmt.d ⟨[b], [], [b]⟩], .tup [Fmt.d ⟨[a, b], [b], [a, b]⟩, Fmt.d ⟨[a], [a], [a]⟩]], rfl, s6.ug.urn, .inl rfl, by simp, by simp, fun x hx h3 um3 => ?_⟩
      have hx2 : PairD x := by
        simp only [List.mem_cons, List.not_mem_nil, or_false] at hx
        rcases hx with rfl | rfl
        · exact ⟨_, _, rfl, p7, p8⟩
        · exact ⟨_, _, rfl, p9, p3⟩
      obtain ⟨ks, ds, e, z, s7⟩ := (s6.um um3).put (Str.ofString "split") hx2 (by decide)
      refine ⟨_, rfl, _, ks, ds, .inr (Str.ofString "split"), rfl, rfl, e, z, hnx _ _ ⟨8, _, _, rfl, ?_⟩⟩
      obtain ⟨ks', ds', e', a1, a2, a3, a4, a5, a6⟩ := s7
      exact ⟨ks', ds', e', a1, a2, a3, a4, a5, fun x hx => a6 x (List.mem_cons_of_mem _ hx)⟩
    · exact ifF (by simpa using c3) (hnx _ _ ⟨7, none, none, rfl, s6⟩)
  · exact ifF (decide_eq_false c2) fin
theorem ok__law_names (T : Txt K w mg) (C__law_take : DFn P w K mg base 1 "_law_take" "_law_take" s__law_take ["_law_urn_here", "_law_below"] S__law_take) (C__law_of : DFn P w K mg base 2 "_law_of" "_law_of" s__law_of ["_law_urn_here", "_law_items"] S__law_of) {f : Addr} {fd : FuncData} (F : Fun K "_law_names" "_law_names" s__law_names f fd) (hm : mg "_law_names" = some (.ref f)) : DFn P w K mg base 3 "_law_names" "_law_names" s__law_names ["_law_urn_here", "_law_count"] S__law_names := by
  refine dfn_of F hm sc__law_names fun cdv A ou s H E hg hr => ⟨_, (ds_cons (ds_set 2 sc__law_names.nd (de_join de_str (de_lc (own := [("_law_turn", 3)]) (T := (.n 3)) rfl sc__law_names.nd (di_range1 rfl T.range (da_cons (de_call C__law_of hg hr (by decide) (fun _ _ _ _ _ _ us hl => match us, hl with | [_, _], _ => rfl) (da_cons (de_var (pv 0)) (da_cons (de_lst (da_cons de_int (da_cons de_int (da_cons de_int (da_cons de_int (da_cons de_int da_nil rfl) rfl) rfl) rfl) rfl)) da_nil rfl) rfl)) da_nil rfl)) (blkOk_by (N := N__law_names) (sc := defScope s__law_names) (by decide +kernel)) (by decide) (fun _ _ _ _ _ => (pg_n 3 sc__law_names.nd)) (fun _ _ _ _ _ => dts_nil) (fun _ _ _ _ _ => (de_call C__law_of hg hr (by decide) (fun _ _ _ _ _ _ us hl => match us, hl with | [_, _], _ => rfl) (da_cons (de_var (pv 0)) (da_cons de_str da_nil rfl) rfl)))))) (ds_cons (ds_asg (de_tup (da_cons (de_call C__law_take hg hr (by decide) (fun _ _ _ _ _ _ us hl => match us, hl with | [_, _], _ => rfl) (da_cons (de_var (pv 0)) (da_cons de_int da_nil rfl) rfl)) (da_cons (de_call C__law_of hg hr (by decide) (fun _ _ _ _ _ _ us hl => match us, hl with | [_, _], _ => rfl) (da_cons (de_var (pv 0)) (da_cons (de_lst (da_cons de_int (da_cons de_int (da_cons de_int (da_cons de_int (da_cons de_int (da_cons de_int da_nil rfl) rfl) rfl) rfl) rfl) rfl)) da_nil rfl) rfl)) da_nil rfl) rfl)) (dg_tup rfl (dgs_cons (dg_name 4 sc__law_names.nd) (dgs_cons (dg_name 5 sc__law_names.nd) dgs_nil)))) (ds_cons (ds_setLc 6 (own := [("_law_at", 7)]) (T := (.n 7)) rfl sc__law_names.nd (di_range1 rfl T.range (da_cons (de_var (pv 1)) da_nil rfl)) (blkOk_by (N := N__law_names) (sc := defScope s__law_names) (by decide +kernel)) (by decide) (fun _ _ _ _ _ => (pg_n 7 sc__law_names.nd)) (fun _ _ _ _ _ => dts_nil) (fun _ _ _ _ _ => (de_ix de_str (de_bin op2_mod (de_bin op2_add (de_var (pv 4)) (de_bin op2_mulT (de_var (pv 5)) (de_var (pv 7)))) de_int)))) (ds_one (ds_ret (de_callB (ol_sortedW (w := w) rfl rfl) rfl T.sorted (by decide +kernel) (da_cons (de_lc (own := [("_law_letter", 8)]) (T := (.n 8)) rfl sc__law_names.nd (di_seq (de_var (pv 6))) (blkOk_by (N := N__law_names) (sc := defScope s__law_names) (by decide +kernel)) (by decide) (fun _ _ _ _ _ => (pg_n 8 sc__law_names.nd)) (fun _ _ _ _ _ => dts_nil) (fun _ _ _ _ _ => (de_if (dt_cmp (op2_eq hr) (de_call C__law_take hg hr (by decide) (fun _ _ _ _ _ _ us hl => match us, hl with | [_, _], _ => rfl) (da_cons (de_var (pv 0)) (da_cons de_int da_nil rfl) rfl)) de_int) (de_bin op2_add (de_var (pv 2)) (de_var (pv 8))) (de_bin op2_add (de_var (pv 8)) (de_var (pv 2)))))) da_nil rfl))))))), fun ds h k hl hS => ?_⟩
  obtain ⟨u, n, rfl, hu, n0, n1, q⟩ := hS
  refine ⟨⟨_, rfl⟩, _, rfl, szl (by simp), rfl, u, _, [.int 0, .int 1, .int 3, .int 5, .int 7], rfl, hu, .inl rfl, by simp, by simp, fun x hx h1 um1 => ?_⟩
  obtain ⟨m, rfl, m1⟩ : ∃ m : Nat, x = .int m ∧ m ≤ 7 := by
    simp only [List.mem_cons, List.not_mem_nil, or_false] at hx
    rcases hx with rfl | rfl | rfl | rfl | rfl
    · exact ⟨0, rfl, by omega⟩
    · exact ⟨1, rfl, by omega⟩
    · exact ⟨3, rfl, by omega⟩
    · exact ⟨5, rfl, by omega⟩
    · exact ⟨7, rfl, by omega⟩
  refine ⟨(m : Int), rfl, ⟨by omega, by omega⟩, lc_each (fun h' => UM u h h') (fun _ y => ∃ s, y = .str s ∧ ∃ c, s = ⟨#[c]⟩ ∧ 97 ≤ c ∧ c ≤ 122) (fun _ _ => trivial) ?_ um1 (szl (by simp [dints_len]; omega)) ?_⟩
  · intro x hx h2 um2 k' hk
    refine ⟨_, rfl, rfl, u, _, _, rfl, um2.urn, .inr (.inr ⟨_, rfl, rfl⟩), by decide +kernel, by decide +kernel, fun y hy h3 um3 => ?_⟩
    obtain ⟨c, hc, rfl⟩ := List.mem_map.mp hy
    exact hk _ h3 (um2.trans um3) ⟨_, rfl, c, rfl, abkmz c hc⟩
  intro out h2 um2 hR hlen
  obtain ⟨ys, e, hy, hp⟩ := unstr (out := out) (p := fun s => ∃ c, s = ⟨#[c]⟩ ∧ 97 ≤ c ∧ c ≤ 122) fun y hy => by
    obtain ⟨_, _, r⟩ := hR y hy
    exact r
  subst e
  rw [dints_len] at hlen
  have jn := join_name hp
  have lys : ys.length ≤ 7 := by omega
  refine ⟨⟨_, rfl⟩, _, ys, rfl, .inl rfl, ?_, ?_⟩
  · have := sum_one hp
    have e0 : (Str.ofString "").length = 0 := rfl
    rw [e0, Nat.mul_zero]; omega
  generalize Txt.join (Str.ofString "") ys = stem at jn
  refine ⟨_, rfl, rfl, u, 26, rfl, um2.urn, by decide, by decide, fun first h3 f0 f1 um3 => ?_⟩
  refine ⟨_, rfl, szl (by simp), rfl, u, _, [.int 1, .int 3, .int 5, .int 7, .int 9, .int 11], rfl, um3.urn, .inl rfl, by simp, by simp, fun lp hlp h4 um4 => ?_⟩
  obtain ⟨leap, rfl, l0, l1, l6⟩ : ∃ m : Int, lp = .int m ∧ 0 ≤ m ∧ m ≤ 11 ∧ (m = 1 ∨ m = 3 ∨ m = 5 ∨ m = 7 ∨ m = 9 ∨ m = 11) := by
    simp only [List.mem_cons, List.not_mem_nil, or_false] at hlp
    rcases hlp with rfl | rfl | rfl | rfl | rfl | rfl
    · exact ⟨1, rfl, by omega, by omega, by omega⟩
    · exact ⟨3, rfl, by omega, by omega, by omega⟩
    · exact ⟨5, rfl, by omega, by omega, by omega⟩
    · exact ⟨7, rfl, by omega, by omega, by omega⟩
    · exact ⟨9, rfl, by omega, by omega, by omega⟩
    · exact ⟨11, rfl, by omega, by omega, by omega⟩
  have um14 : UM u h h4 := (um2.trans um3).trans um4
  refine ⟨szl (by simp), _, rfl, rfl, _, _, rfl, _, _, rfl, rfl, ?_⟩
  refine ⟨_, rfl, n, rfl, ⟨by omega, by omega⟩, lc_map (fun h' => UM u h h') (fun x y => ∃ (i c : Nat), x = .int (0 + (i : Int)) ∧ y = .str ⟨#[c]⟩ ∧ (c : Int) = 97 + (first + leap * (0 + (i : Int))) % 26) (fun _ _ => trivial) ?_ um14 (szl (by simp [dints_len]; omega)) ?_⟩
  · intro x hx h5 um5 k' hk
    obtain ⟨i, hi, rfl⟩ := mem_dints hx
    refine ⟨_, rfl, _, rfl, _, rfl, .inl ⟨wide_mul (a := 64) (b := 64) (by omega) (by omega) (by decide) (by decide) (by decide), (by show (0 : Int) < 26; decide), szl (by decide +kernel), ?_⟩⟩
    have r0 := Int.emod_nonneg (first + leap * (0 + (i : Int))) (b := 26) (by decide)
    have r1 := Int.emod_lt_of_pos (first + leap * (0 + (i : Int))) (b := 26) (by decide)
    obtain ⟨r, hr⟩ := Int.eq_ofNat_of_zero_le r0
    have hr26 : r < 26 := by omega
    have ex : atI (Str.ofString "abcdefghijklmnopqrstuvwxyz").cps.toList ((first + leap * (0 + (i : Int))) % 26) = some (97 + r) := by
      rw [hr]; exact atI_nat (abc26_at ⟨r, hr26⟩)
    exact ⟨97 + r, ex, hk _ h5 um5 ⟨i, 97 + r, rfl, rfl, by rw [hr]; rfl⟩⟩
  intro out2 h5 um5 hR2 hl2
  rw [dints_len] at hl2
  have letter : ∀ (j : Nat) (y : D), out2[j]? = some y → ∃ c : Nat, y = .str ⟨#[c]⟩ ∧ (c : Int) = 97 + (first + leap * (0 + (j : Int))) % 26 := by
    intro j y hy
    have hj : j < out2.length := (List.getElem?_eq_some_iff.mp hy).1
    obtain ⟨i, c, e1, e2, e3⟩ := hR2 j (.int (0 + (j : Int))) y (by unfold dints; rw [List.getElem?_map, List.getElem?_range (by omega)]; rfl) hy
    have : (0 + (j : Int)) = 0 + (i : Int) := D.int.inj e1
    exact ⟨c, e2, by rw [this]; exact e3⟩
  refine ⟨_, rfl, _, rfl, lc_map (fun h' => UM u h h') (fun x y => ∃ (c : Nat) (s : Str), x = .str ⟨#[c]⟩ ∧ y = .str s ∧ nameOk s ∧ codes s = codes stem + c) (fun _ _ => trivial) ?_ um5 (szl (by simp; omega)) ?_⟩
  · intro x hx h6 um6 k' hk
    obtain ⟨j, hj⟩ := List.getElem?_of_mem (show x ∈ out2 by simpa using hx)
    obtain ⟨c, rfl, hc⟩ := letter j x hj
    have r0 := Int.emod_nonneg (first + leap * (0 + (j : Int))) (b := 26) (by decide)
    have r1 := Int.emod_lt_of_pos (first + leap * (0 + (j : Int))) (b := 26) (by decide)
    have an := app_name (s := stem) (c := c) (by omega) jn.2 (by omega)
    have ca := codes_app stem c
    have sz1 : stem.length ≤ 7 := by have : stem.length = stem.cps.size := rfl; omega
    have sz2 : (⟨#[c]⟩ : Str).length = 1 := rfl
    refine ⟨_, rfl, rfl, u, 2, rfl, um6.urn, by decide, by decide, fun r h7 r0 r1 um7 => ⟨.inr trivial, _, rfl, ?_⟩⟩
    by_cases hr0 : dEq (.int r) (.int 0) = true
    · exact ifT hr0 ⟨_, rfl, _, rfl, szl (by omega), hk _ h7 (um6.trans um7) ⟨c, _, rfl, rfl, an.1, ca.1⟩⟩
    · exact ifF (by simpa using hr0) ⟨_, rfl, _, rfl, szl (by omega), hk _ h7 (um6.trans um7) ⟨c, _, rfl, rfl, an.2, ca.2⟩⟩
  intro out3 h6 um6 hR3 hl3
  simp only [List.nil_append] at hR3 hl3
  have name : ∀ (j : Nat) (y : D), out3[j]? = some y → ∃ s, y = .str s ∧ nameOk s ∧ codes s = codes stem + (97 + (first + leap * (0 + (j : Int))) % 26).toNat := by
    intro j y hy
    have hj : j < out3.length := (List.getElem?_eq_some_iff.mp hy).1
    have hj2 : j < out2.length := by omega
    obtain ⟨c, s, e1, e2, e3, e4⟩ := hR3 j out2[j] y (List.getElem?_eq_getElem hj2) hy
    obtain ⟨c', e5, e6⟩ := letter j _ (List.getElem?_eq_getElem hj2)
    rw [e1] at e5
    have : c = c' := by
      have h1 := D.str.inj e5
      have h2 := congrArg (fun z : Str => z.cps.toList) h1
      simpa using h2
    subst this
    exact ⟨s, e2, e3, by rw [e4, ← e6]; rfl⟩
  obtain ⟨zs, e3, hz3, hp3⟩ := unstr (out := out3) (p := nameOk) fun y hy => by
    obtain ⟨j, hj⟩ := List.getElem?_of_mem hy
    obtain ⟨s, e, hs, _⟩ := name j y hj
    exact ⟨s, e, hs⟩
  subst e3
  simp only [List.length_map] at hl3
  have nd : n ≤ 26 → zs.Nodup := fun h26 => nodup_of_codes (f := fun j => codes stem + (97 + (first + leap * (0 + (j : Int))) % 26).toNat) (fun j z hz => by
      obtain ⟨s, e, _, hs⟩ := name j (.str z) (by rw [List.getElem?_map, hz]; rfl)
      rw [D.str.inj e]; exact hs) (fun i j hi hj e => by
      have a0 := Int.emod_nonneg (first + leap * (0 + (i : Int))) (b := 26) (by decide)
      have b0 := Int.emod_nonneg (first + leap * (0 + (j : Int))) (b := 26) (by decide)
      exact leap_inj (first := first) l6 (by omega) (by omega) (by omega))
  refine .inl ⟨zs, rfl, by omega, fun zs' pm hs => q zs' h6 (by rw [pm.length_eq]; omega) (fun x hx => hp3 x (pm.mem_iff.mp hx)) hs (fun h26 => pm.nodup_iff.mpr (nd h26)) um6⟩
theorem ok__law_system (T : Txt K w mg) (C__law_pair : DFn P w K mg base 4 "_law_pair" "_law_pair" s__law_pair ["_law_urn_here", "_law_kind_here"] S__law_pair) (C__law_of : DFn P w K mg base 2 "_law_of" "_law_of" s__law_of ["_law_urn_here", "_law_items"] S__law_of) (C__law_names : DFn P w K mg base 3 "_law_names" "_law_names" s__law_names ["_law_urn_here", "_law_count"] S__law_names) (C__law_take : DFn P w K mg base 1 "_law_take" "_law_take" s__law_take ["_law_urn_here", "_law_below"] S__law_take) {f : Addr} {fd : FuncData} (F : Fun K "_law_system" "_law_system" s__law_system f fd) (hm : mg "_law_system" = some (.ref f)) : DFn P w K mg base 5 "_law_system" "_law_system" s__law_system ["_law_urn_here", "_law_most", "_law_lines", "_law_kinds_here"] S__law_system := by
  refine dfn_of F hm sc__law_system fun cdv A ou s H E hg hr => ⟨_, (ds_cons (ds_set 4 sc__law_system.nd (de_callTy ol_tuple rfl T.tuple (by decide +kernel) (da_cons (de_call C__law_names hg hr (by decide) (fun _ _ _ _ _ _ us hl => match us, hl with | [_, _], _ => rfl) (da_cons (de_var (pv 0)) (da_cons (de_bin op2_add de_int (de_call C__law_take hg hr (by decide) (fun _ _ _ _ _ _ us hl => match us, hl with | [_, _], _ => rfl) (da_cons (de_var (pv 0)) (da_cons (de_var (pv 1)) da_nil rfl) rfl))) da_nil rfl) rfl)) da_nil rfl))) (ds_cons (ds_par 5 6 rfl sc__law_system.nd (da_cons (de_lstM da_nil) (da_cons (de_call C__law_names hg hr (by decide) (fun _ _ _ _ _ _ us hl => match us, hl with | [_, _], _ => rfl) (da_cons (de_var (pv 0)) (da_cons (de_callB (ol_min2 rfl) rfl T.min (by decide +kernel) (da_cons de_int (da_cons (de_call C__law_take hg hr (by decide) (fun _ _ _ _ _ _ us hl => match us, hl with | [_, _], _ => rfl) (da_cons (de_var (pv 0)) (da_cons (de_bin op2_add (de_var (pv 2)) de_int) da_nil rfl) rfl)) da_nil rfl) rfl)) da_nil rfl) rfl)) da_nil rfl) rfl)) (ds_cons (ds_for (T := (.n 7)) PassesOwn.never rfl (di_seq (de_var (pv 6))) (pg_n 7 sc__law_system.nd) (ds_cons (ds_set 8 sc__law_system.nd (de_tup (da_cons (de_call C__law_of hg hr (by decide) (fun _ _ _ _ _ _ us hl => match us, hl with | [_, _], _ => rfl) (da_cons (de_var (pv 0)) (da_cons (de_var (pv 4)) da_nil rfl) rfl)) (da_cons (de_call C__law_of hg hr (by decide) (fun _ _ _ _ _ _ us hl => match us, hl with | [_, _], _ => rfl) (da_cons (de_var (pv 0)) (da_cons (de_var (pv 4)) da_nil rfl) rfl)) da_nil rfl) rfl))) (ds_one (ds_expr (de_meth PySem.F.plainAttrs_list PySem.F.slot_list_append PySem.F.type_list_append mt_appendD isLst.ok (de_var (pv 5)) (da_cons (de_bin op2_add (de_bin op2_add (de_tup (da_cons (de_var (pv 7)) da_nil rfl)) (de_var (pv 8))) (de_call C__law_pair hg hr (by decide) (fun _ _ _ _ _ _ us hl => match us, hl with | [_, _], _ => rfl) (da_cons (de_var (pv 0)) (da_cons (de_call C__law_of hg hr (by decide) (fun _ _ _ _ _ _ us hl => match us, hl with | [_, _], _ => rfl) (da_cons (de_var (pv 0)) (da_cons (de_var (pv 3)) da_nil rfl) rfl)) da_nil rfl) rfl))) da_nil rfl)))))) (ds_one (ds_ret (de_tup (da_cons (de_var (pv 4)) (da_cons (de_callTy ol_tupleR rfl T.tuple (by decide +kernel) (da_cons (de_var (pv 5)) da_nil rfl)) da_nil rfl) rfl))))))), fun ds h k hl hS => ?_⟩
  obtain ⟨u, most, lines, kinds, rfl, hu, m1, m2, n1, n2, kl, kl2, hk, q⟩ := hS
  refine ⟨_, rfl, _, rfl, _, rfl, rfl, u, most, rfl, hu, by omega, by omega, fun r h1 r0 r1 um1 => ?_⟩
  refine ⟨rfl, u, 1 + r, rfl, um1.urn, by omega, by omega, fun svc h2 hl2 hn2 hs2 hd2 um2 => .inr ⟨_, rfl, ?_⟩⟩
  have um02 := um1.trans um2
  have asc2 := asc_of _ hs2 (hd2 (by omega))
  refine ⟨szl (by simp), _, rfl, _, rfl, _, rfl, rfl, u, lines + 1, rfl, (UG.push um02.urn (.lst [])).urn, by omega, by omega, fun t h3 t0 t1 um3 => ?_⟩
  refine ⟨26, t, rfl, rfl, u, _, rfl, um3.urn, ?_, ?_, fun xs h4 hl4 hn4 hs4 hd4 um4 => ⟨_, _, rfl, ?_⟩⟩
  · show (0 : Int) ≤ (if t < 26 then t else 26)
    split <;> omega
  · show (if t < 26 then t else 26) ≤ (60 : Int)
    split <;> omega
  replace hl4 : (xs.length : Int) = if t < 26 then t else 26 := hl4
  replace hd4 : (if t < 26 then t else 26) ≤ (26 : Int) → xs.Nodup := hd4
  have hx26 : xs.length ≤ 26 ∧ (xs.length : Int) ≤ lines := by
    rw [hl4]
    constructor
    · have : (xs.length : Int) ≤ 26 := by rw [hl4]; split <;> omega
      omega
    · split <;> omega
  have asc4 := asc_of _ hs4 (hd4 (by split <;> omega))
  have hu2 := um02.urn.lt
  have ugN : UG u h h4 := (um02.g.trans (UG.push um02.urn (.lst []))).trans (um3.trans um4).g
  have hN : h4[h2.length]? = some (.lst []) := by
    rw [(um3.trans um4).oth _ (by omega)]; exact get_last _ _
  have hul := hu.lt
  have hnl : h.length ≤ h2.length := um02.g.len
  have lsvc : 1 ≤ svc.length ∧ svc.length ≤ 12 := by omega
  clear um1 um2 um02 um3 um4 hd2 hd4 hs2 hs4
  with_reducible refine seq_cut (fun ρ' h' => ∃ (cs : List Chan) (a b : Option D), cs.map Chan.nm = xs ∧ (∀ c ∈ cs, OkCh svc c) ∧ ρ' = [some (.ref u), some (.int most), some (.int lines), some (.lst (kinds.map .str)), some (txs svc), some (.ref h2.length), some (.lst (xs.map .str)), a, b] ∧ UG u h h' ∧ h'[h2.length]? = some (.lst (cs.map Chan.d))) ?_ ?_
  · rintro ρ' h' ⟨cs, a, b, e1, e2, rfl, ug, e3⟩
    have lcs : cs.length = xs.length := by rw [← e1, List.length_map]
    refine ⟨_, rfl, _, rfl, .inr ⟨_, _, rfl, e3, szl (by simp), q svc cs h' ⟨hn2, asc2, lsvc.1, lsvc.2, e2, by rw [e1]; exact asc4, by omega⟩ (by omega) (by omega) ug⟩⟩
  intro nx hnx
  refine ⟨_, rfl, _, rfl, for_rest (fun its ρ' h' => ∃ (cs : List Chan) (rest : List Str) (a b : Option D), its = rest.map .str ∧ cs.map Chan.nm ++ rest = xs ∧ (∀ c ∈ cs, OkCh svc c) ∧ ρ' = [some (.ref u), some (.int most), some (.int lines), some (.lst (kinds.map .str)), some (txs svc), some (.ref h2.length), some (.lst (xs.map .str)), a, b] ∧ UG u h h' ∧ h'[h2.length]? = some (.lst (cs.map Chan.d))) (fun _ _ _ _ => trivial) ?_ ?_ ⟨[], xs, none, none, rfl, rfl, fun c hc => (nomatch hc), rfl, ugN, hN⟩⟩
  · rintro ρ' h' ⟨cs, rest, a, b, e0, e1, e2, rfl, ug, e3⟩
    have : rest = [] := by
      cases rest with
      | nil => rfl
      | cons x r => simp at e0
    subst this
    exact hnx _ _ ⟨cs, a, b, by rw [← e1, List.append_nil], e2, rfl, ug, e3⟩
  · rintro x its ρ' h' ⟨cs, rest, a, b, e0, e1, e2, rfl, ug, e3⟩ e' hn' hct hbk hrt
    cases rest with
    | nil => simp at e0
    | cons y rest =>
      rw [List.map_cons, List.cons.injEq] at e0
      obtain ⟨rfl, rfl⟩ := e0
      have hy : nameOk y := hn4 y (by rw [← e1]; simp)
      have lcs : cs.length ≤ 26 := by
        have := congrArg List.length e1
        simp at this; omega
      have hul' : u ≠ h2.length := by omega
      refine ⟨_, rfl, ?_⟩
      refine ⟨_, rfl, _, rfl, rfl, u, _, svc.map .str, rfl, ug.urn, .inr (.inl rfl), by simp; omega, by simp; omega, fun s1 hs1 h5 um5 => ?_⟩
      refine ⟨_, rfl, _, rfl, rfl, u, _, svc.map .str, rfl, um5.urn, .inr (.inl rfl), by simp; omega, by simp; omega, fun s2 hs2 h6 um6 => ⟨szl (by simp), ?_⟩⟩
      obtain ⟨z1, hz1, rfl⟩ := List.mem_map.mp hs1
      obtain ⟨z2, hz2, rfl⟩ := List.mem_map.mp hs2
      have e6 : h6[h2.length]? = some (.lst (cs.map Chan.d)) := by rw [(um5.trans um6).oth _ (fun z => hul' z.symm)]; exact e3
      have ug6 := ug.trans (um5.trans um6).g
      refine ⟨_, rfl, .inl ⟨_, _, rfl, e6⟩, _, rfl, szl (by simp), _, rfl, szl (by simp), _, rfl, _, rfl, _, rfl, rfl, u, _, kinds.map .str, rfl, ug6.urn, .inl rfl, by simpa using kl, by simp; omega, fun kx hkx h7 um7 => ?_⟩
      obtain ⟨kd, hkd, rfl⟩ := List.mem_map.mp hkx
      refine ⟨rfl, u, kd, rfl, um7.urn, hk kd hkd, fun f g h8 of og ug8 => ⟨szl (by simp), ?_⟩⟩
      have ug78 := um7.g.trans ug8
      have e8 : h8[h2.length]? = some (.lst (cs.map Chan.d)) := ug78.at (fun z => hul' z.symm) e6
      refine ⟨_, _, _, rfl, rfl, e8, szlt (by simp; omega), ?_⟩
      refine hn' _ _ ⟨cs ++ [⟨y, z1, z2, f, g⟩], rest, _, _, rfl, by rw [← e1]; simp, fun c hc => ?_, rfl, (ug6.trans ug78).set hnl hul _, ?_⟩
      · rcases List.mem_append.mp hc with hc | hc
        · exact e2 c hc
        · rw [List.mem_singleton.mp hc]; exact ⟨hy, hz1, hz2, of, og⟩
      · rw [List.getElem?_set_self (List.getElem?_eq_some_iff.mp e8).1, List.map_append]; rfl
theorem ok__law_made (T : Txt K w mg) (C_System___init__ : DInit P w K mg base 8 "System" "System.__init__" s_System___init__ ["self", "services", "channels"] S_System___init__) (C__law_system : DFn P w K mg base 5 "_law_system" "_law_system" s__law_system ["_law_urn_here", "_law_most", "_law_lines", "_law_kinds_here"] S__law_system) {f : Addr} {fd : FuncData} (F : Fun K "_law_made" "_law_made" s__law_made f fd) (hm : mg "_law_made" = some (.ref f)) : DFn P w K mg base 10 "_law_made" "_law_made" s__law_made ["_law_urn_here", "_law_most", "_law_channels", "_law_kinds_here"] S__law_made := by
  refine dfn_of F hm sc__law_made fun cdv A ou s H E hg hr => ⟨_, (ds_cons (ds_asg (de_call C__law_system hg hr (by decide) (fun _ _ _ _ _ _ us hl => match us, hl with | [_, _, _, _], _ => rfl) (da_cons (de_var (pv 0)) (da_cons (de_var (pv 1)) (da_cons (de_var (pv 2)) (da_cons (de_var (pv 3)) da_nil rfl) rfl) rfl) rfl)) (dg_tup rfl (dgs_cons (dg_name 4 sc__law_made.nd) (dgs_cons (dg_name 5 sc__law_made.nd) dgs_nil)))) (ds_one (ds_ret (de_tup (da_cons (de_var (pv 4)) (da_cons (de_var (pv 5)) (da_cons (de_make C_System___init__ hg hr (by decide) (fun _ _ _ _ _ _ us hl => match us, hl with | [_, _, _], _ => rfl) (da_cons (de_var (pv 4)) (da_cons (de_var (pv 5)) da_nil rfl) rfl)) da_nil rfl) rfl) rfl))))), fun ds h k hl hS => ?_⟩
  obtain ⟨u, most, lines, kinds, rfl, hu, m1, m2, n1, n2, kl, kl2, hk, q⟩ := hS
  refine ⟨_, rfl, _, rfl, _, rfl, _, rfl, rfl, u, most, lines, kinds, rfl, hu, m1, m2, n1, n2, kl, kl2, hk, fun svc cs h1 ok lc l26 ug => ?_⟩
  refine ⟨_, rfl, rfl, _, _, rfl, _, _, rfl, rfl, ?_⟩
  refine ⟨_, rfl, _, rfl, _, rfl, _, rfl, rfl, h1.length, svc, cs, rfl, ok, get_last _ _, rfl, szl (by simp), ?_⟩
  rw [set_last]
  exact q svc cs h1.length _ ok lc l26 (ug.trans (UG.push ug.urn _)) ug.len (get_last _ _)
theorem ok__law_kinds (T : Txt K w mg) {f : Addr} {fd : FuncData} (F : Fun K "_law_kinds" "_law_kinds" s__law_kinds f fd) (hm : mg "_law_kinds" = some (.ref f)) : DFn P w K mg base 1 "_law_kinds" "_law_kinds" s__law_kinds [] S__law_kinds := by
  refine dfn_of F hm sc__law_kinds fun cdv A ou s H E hg hr => ⟨_, (ds_one (ds_ret (de_lst (da_cons de_str (da_cons de_str (da_cons de_str (da_cons de_str (da_cons de_str (da_cons de_str (da_cons de_str (da_cons de_str (da_cons de_str (da_cons de_str (da_cons de_str da_nil rfl) rfl) rfl) rfl) rfl) rfl) rfl) rfl) rfl) rfl) rfl)))), fun ds h k hl hS => ?_⟩
  obtain ⟨rfl, q⟩ := hS
  exact ⟨szl (by simp), q⟩
theorem ok__law_right (T : Txt K w mg) (C_edges : DFn P w K mg base 6 "edges" "edges" s_edges ["system"] S_edges) (C__law_edges : DFn P w K mg base 4 "_law_edges" "_law_edges" s__law_edges ["_law_lines"] S__law_edges) (C__law_made : DFn P w K mg base 10 "_law_made" "_law_made" s__law_made ["_law_urn_here", "_law_most", "_law_channels", "_law_kinds_here"] S__law_made) (C__law_kinds : DFn P w K mg base 1 "_law_kinds" "_law_kinds" s__law_kinds [] S__law_kinds) {f : Addr} {fd : FuncData} (F : Fun K "_law_right" "_law_right" s__law_right f fd) (hm : mg "_law_right" = some (.ref f)) : DFn P w K mg base 11 "_law_right" "_law_right" s__law_right ["_law_urn_here"] S__law_right := by
  refine dfn_of F hm sc__law_right fun cdv A ou s H E hg hr => ⟨_, (ds_cons (ds_asg (de_call C__law_made hg hr (by decide) (fun _ _ _ _ _ _ us hl => match us, hl with | [_, _, _, _], _ => rfl) (da_cons (de_var (pv 0)) (da_cons de_int (da_cons de_int (da_cons (de_call0 C__law_kinds hg hr (by decide) (fun _ _ _ _ _ _ us hl => match us, hl with | [], _ => rfl)) da_nil rfl) rfl) rfl) rfl)) (dg_tup rfl (dgs_cons (dg_name 1 sc__law_right.nd) (dgs_cons (dg_name 2 sc__law_right.nd) (dgs_cons (dg_name 3 sc__law_right.nd) dgs_nil))))) (ds_one (ds_ret (de_cmp (op2_eq hr) (de_callB (ol_repr hr hg) rfl T.repr (by decide +kernel) (da_cons (de_call C_edges hg hr (by decide) (fun _ _ _ _ _ _ us hl => match us, hl with | [_], _ => rfl) (da_cons (de_var (pv 3)) da_nil rfl)) da_nil rfl)) (de_callB (ol_repr hr hg) rfl T.repr (by decide +kernel) (da_cons (de_callTy ol_tuple rfl T.tuple (by decide +kernel) (da_cons (de_call C__law_edges hg hr (by decide) (fun _ _ _ _ _ _ us hl => match us, hl with | [_], _ => rfl) (da_cons (de_var (pv 2)) da_nil rfl)) da_nil rfl)) da_nil rfl)))))), fun ds h k hl hS => ?_⟩
  obtain ⟨u, rfl, hu, q⟩ := hS
  refine ⟨_, rfl, rfl, rfl, rfl, u, 12, 26, kindsL, rfl, hu, by decide, by decide, by decide, by decide, by decide, by decide, kindsL8, fun svc cs n1 h1 ok l26' l26 ug1 hn1 g1 => ?_⟩
  refine ⟨_, rfl, rfl, _, _, rfl, _, _, rfl, _, _, rfl, rfl, ?_⟩
  have sm := edg_sm ok
  obtain ⟨tx, etx⟩ : ∃ t, t = (toPy (stpsD (edgS cs))).shown := ⟨_, rfl⟩
  refine ⟨_, rfl, rfl, n1, svc, cs, rfl, g1, ok, l26, _, rfl, sm.shows.c, _, rfl, rfl, svc, cs, rfl, ok, fun h2 gr => .inr ⟨_, rfl, _, rfl, sm.shows.c, ?_⟩⟩
  rw [show D.tup ((edgS cs).map stepD) = stpsD (edgS cs) from rfl, ← etx]
  refine ⟨.inr trivial, ?_⟩
  rw [dEq_str, decide_eq_true rfl]
  exact q _ (ug1.trans (gr.ug ug1.urn))
theorem ok__law_urn (T : Txt K w mg) {f : Addr} {fd : FuncData} (F : Fun K "_law_urn" "_law_urn" s__law_urn f fd) (hm : mg "_law_urn" = some (.ref f)) : DFn P w K mg base 1 "_law_urn" "_law_urn" s__law_urn ["_law_script", "_law_k"] S__law_urn := by
  refine dfn_of F hm sc__law_urn fun cdv A ou s H E hg hr => ⟨_, (ds_cons (ds_set 2 sc__law_urn.nd (de_if (dt_cmp op2_lt (de_var (pv 1)) (de_callB ol_len rfl T.len (by decide +kernel) (da_cons (de_var (pv 0)) da_nil rfl))) (de_ix (de_var (pv 0)) (de_var (pv 1))) (de_bin op2_add (de_bin op2_mulT de_int (de_var (pv 1))) de_int))) (ds_cons (ds_set 3 sc__law_urn.nd (de_bin op2_mulT (de_bin op2_mod (de_callB ol_abs rfl T.abs (by decide +kernel) (da_cons (de_var (pv 2)) da_nil rfl)) (de_callTy ol_int rfl T.int (by decide +kernel) (da_cons (de_bin op2_add de_str (de_bin op2_mulT de_str de_int)) da_nil rfl))) (de_callTy ol_int rfl T.int (by decide +kernel) (da_cons (de_cmp op2_ge (de_callB ol_abs rfl T.abs (by decide +kernel) (da_cons (de_var (pv 2)) da_nil rfl)) (de_bin op2_pow de_int de_int)) da_nil rfl)))) (ds_one (ds_ret (de_lstM (da_cons (de_var (pv 3)) (da_cons (de_bin op2_mod (de_bin op2_mulT (de_bin op2_add (de_bin op2_add (de_bin op2_mod (de_var (pv 2)) de_int) (de_bin op2_mulT (de_bin op2_mulT de_int (de_var (pv 1))) (de_var (pv 1)))) de_int) de_int) de_int) da_nil rfl) rfl)))))), fun ds h k hl hS => ?_⟩
  obtain ⟨ns, i, rfl, i0, i1, q⟩ := hS
  have sq := sq_bd i0 i1
  have aux : ∀ c : Int, (c % 2305843009213693951 + 7919 * i * i + 17).natAbs < 2 ^ 64 := fun c => by
    have h1 := Int.emod_nonneg c (b := 2305843009213693951) (by decide)
    have h2 := Int.emod_lt_of_pos c (b := 2305843009213693951) (by decide)
    omega
  refine ⟨_, rfl, _, rfl, _, _, rfl, rfl, _, rfl, ?_⟩
  by_cases hi : i < (ns.length : Int)
  · refine ifT (decide_eq_true (by simpa using hi)) ?_
    obtain ⟨x, hx, ex⟩ := atI_mem (xs := ns.map D.int) i0 (by simpa using hi)
    obtain ⟨c, _, rfl⟩ := List.mem_map.mp hx
    refine ⟨_, rfl, _, rfl, _, ex, ?_⟩
    refine ⟨_, rfl, _, rfl, .inr ⟨_, _, rfl, rfl, by decide, by decide, by decide, by decide +kernel, by decide +kernel, by decide +kernel, .inr (.inr ⟨_, 10 ^ 300, rfl, text300, by decide +kernel, ten300, _, rfl, _, rfl, ⟨by decide, by decide, by decide⟩, .inr (.inl ⟨_, rfl, .inl ⟨?_, ?_⟩⟩)⟩)⟩⟩
    · exact wide_mul (a := 1000) (b := 2) (urnA_bits (Int.emod_nonneg _ (Int.ne_of_gt ten300)) (Int.emod_lt_of_pos _ ten300)) (b01 _) (by decide) (by decide) (by decide)
    · refine ⟨_, rfl, _, rfl, (by show (0 : Int) < 2305843009213693951; decide), _, rfl, .inl ⟨wide_mul (a := 64) (b := 64) (by decide) (by omega) (by decide) (by decide) (by decide), _, rfl, .inl ⟨wide_mul (a := 64) (b := 64) (by omega) (by omega) (by decide) (by decide) (by decide), .inl ⟨?_, (by show (0 : Int) < 2305843009213693951; decide), szl (by simp), ?_⟩⟩⟩⟩
      · exact wide_mul (a := 64) (b := 64) (aux _) (by decide) (by decide) (by decide) (by decide)
      · refine q _ (by simp) (fun j hj => List.getElem?_append_left hj) ?_
        have ob := own_bd (c := if c < 0 then -(c) else c) (x := if decide ((10 : Int) ^ 18 ≤ if c < 0 then -(c) else c) = true then 1 else 0) (zo _)
        exact urn_new ob.1 ob.2 (Int.emod_nonneg _ (by decide)) (Int.emod_lt_of_pos _ (by decide))
  · refine ifF (decide_eq_false (by simpa using hi)) ?_
    refine ⟨_, rfl, .inl ⟨wide_mul (a := 64) (b := 64) (by decide) (by omega) (by decide) (by decide) (by decide), ?_⟩⟩
    refine ⟨_, rfl, _, rfl, .inr ⟨_, _, rfl, rfl, by decide, by decide, by decide, by decide +kernel, by decide +kernel, by decide +kernel, .inr (.inr ⟨_, 10 ^ 300, rfl, text300, by decide +kernel, ten300, _, rfl, _, rfl, ⟨by decide, by decide, by decide⟩, .inr (.inl ⟨_, rfl, .inl ⟨?_, ?_⟩⟩)⟩)⟩⟩
    · exact wide_mul (a := 1000) (b := 2) (urnA_bits (Int.emod_nonneg _ (Int.ne_of_gt ten300)) (Int.emod_lt_of_pos _ ten300)) (b01 _) (by decide) (by decide) (by decide)
    · refine ⟨_, rfl, _, rfl, (by show (0 : Int) < 2305843009213693951; decide), _, rfl, .inl ⟨wide_mul (a := 64) (b := 64) (by decide) (by omega) (by decide) (by decide) (by decide), _, rfl, .inl ⟨wide_mul (a := 64) (b := 64) (by omega) (by omega) (by decide) (by decide) (by decide), .inl ⟨?_, (by show (0 : Int) < 2305843009213693951; decide), szl (by simp), ?_⟩⟩⟩⟩
      · exact wide_mul (a := 64) (b := 64) (aux _) (by decide) (by decide) (by decide) (by decide)
      · refine q _ (by simp) (fun j hj => List.getElem?_append_left hj) ?_
        have ob := own_bd (c := if 5 * i + 2 < 0 then -(5 * i + 2) else 5 * i + 2) (x := if decide ((10 : Int) ^ 18 ≤ if 5 * i + 2 < 0 then -(5 * i + 2) else 5 * i + 2) = true then 1 else 0) (zo _)
        exact urn_new ob.1 ob.2 (Int.emod_nonneg _ (by decide)) (Int.emod_lt_of_pos _ (by decide))
theorem ok_law (T : Txt K w mg) (C__law_right : DFn P w K mg base 11 "_law_right" "_law_right" s__law_right ["_law_urn_here"] S__law_right) (C__law_urn : DFn P w K mg base 1 "_law_urn" "_law_urn" s__law_urn ["_law_script", "_law_k"] S__law_urn) {f : Addr} {fd : FuncData} (F : Fun K "law" "law" s_law f fd) (hm : mg "law" = some (.ref f)) : DFn P w K mg base 12 "law" "law" s_law ["_law_script"] S_law := by
  refine dfn_of F hm sc_law fun cdv A ou s H E hg hr => ⟨_, (ds_cons (ds_for (T := (.n 1)) PassesOwn.never rfl (di_range1 rfl T.range (da_cons (de_callB (ol_max2 rfl) rfl T.max (by decide +kernel) (da_cons de_int (da_cons (de_callB (ol_min2 rfl) rfl T.min (by decide +kernel) (da_cons de_int (da_cons (de_callB ol_len rfl T.len (by decide +kernel) (da_cons (de_var (pv 0)) da_nil rfl)) da_nil rfl) rfl)) da_nil rfl) rfl)) da_nil rfl)) (pg_n 1 sc_law.nd) (ds_cons (ds_set 2 sc_law.nd (de_call C__law_urn hg hr (by decide) (fun _ _ _ _ _ _ us hl => match us, hl with | [_, _], _ => rfl) (da_cons (de_var (pv 0)) (da_cons (de_var (pv 1)) da_nil rfl) rfl))) (ds_one (ds_if (dt_not (dt_val (de_callB (ol_all rfl) rfl T.all (by decide +kernel) (da_cons (de_lc (own := [("_law_turn", 3)]) (T := (.n 3)) rfl sc_law.nd (di_range1 rfl T.range (da_cons de_int da_nil rfl)) (blkOk_by (N := N_law) (sc := defScope s_law) (by decide +kernel)) (by decide) (fun _ _ _ _ _ => (pg_n 3 sc_law.nd)) (fun _ _ _ _ _ => dts_nil) (fun _ _ _ _ _ => (de_call C__law_right hg hr (by decide) (fun _ _ _ _ _ _ us hl => match us, hl with | [_], _ => rfl) (da_cons (de_var (pv 2)) da_nil rfl)))) da_nil rfl)))) (ds_one (ds_ret de_bl)) ds_nil)))) (ds_one (ds_ret de_bl))), fun ds h k hl hS => ?_⟩
  obtain ⟨ns, rfl, q⟩ := hS
  refine ⟨_, rfl, _, _, rfl, rfl, _, _, rfl, _, _, rfl, _, rfl, ⟨?_, ?_⟩, ?_⟩
  · exact (mm3 _ (by omega)).1
  · exact (mm3 _ (by omega)).2.1
  refine for_each (fun ρ _ => ∃ a b c, ρ = [some (.rol (ns.map .int)), a, b, c]) (fun _ _ _ => trivial) ?_ ?_ ⟨_, _, _, rfl⟩
  · rintro ρ h1 ⟨a, b, c, rfl⟩
    exact q h1
  · rintro x hx ρ h1 ⟨a, b, c, rfl⟩ e' hn hrt
    obtain ⟨i, hi, rfl⟩ := mem_dints hx
    have hi3 : i ≤ 3 := Nat.le_of_lt (Nat.lt_of_lt_of_le hi (mm3 _ (by omega)).2.2)
    refine ⟨_, rfl, _, rfl, _, rfl, rfl, ns, _, rfl, by omega, by omega, fun h2 l2 o2 u2 => ?_⟩
    refine ⟨4, rfl, ⟨by decide, by decide⟩, lc_each (fun h' => UG h1.length h2 h') (fun _ y => y = .bl true) (fun _ _ => trivial) ?_ (UG.refl u2) (szl (by simp [dints_len])) ?_⟩
    · intro y hy h3 um3 k' hk
      exact ⟨_, rfl, rfl, h1.length, rfl, um3.urn, fun h4 um4 => hk _ h4 (um3.trans um4) rfl⟩
    · intro out h3 um3 hR hl3
      obtain ⟨bs, eb, hb⟩ := all_true (out := out) fun y hy => by
        obtain ⟨_, _, r⟩ := hR y hy
        exact r
      subst eb
      refine ⟨bs, rfl, _, rfl, ?_⟩
      rw [hb]
      exact ifF rfl (hn _ h3 ⟨_, _, _, rfl⟩)
end
end K21

namespace K21
open PySem PySem.Spec PyProof.Rows L2 Vf
theorem all_mk {l : PySem.W.OpenLaw} {w : World} {K : PySem.W.Frag} {h : Heap} {mg : Str → Option Value} {fa : Addr} (KX : K.In h) (G : h.Ns mainGlobals mg) (hfa : mg "law" = some (.ref fa))
    {CSystem : Addr} (aCSystem : PySem.W.nsIn K mainGlobals "System" = some (some (.ref CSystem))) (pgSystem : PySem.W.plainGet K CSystem Str.empty = true) (hdSystem : PySem.W.hasDictIn K CSystem = true) (poSystem : PySem.W.plainOver K CSystem = true) (saSystem : PySem.W.findIn K (.ref CSystem) "__setattr__" = some (some (.builtin "object.__setattr__"))) (mkSystem : PySem.W.makesIn K CSystem = true) (kcSystem : PySem.W.keepIn K (.ref CSystem) = true)
    (nSystem_services : PySem.W.findIn K (.ref CSystem) "services" = some none)
    (nSystem_channels : PySem.W.findIn K (.ref CSystem) "channels" = some none)
    {f0 : Addr} {od0 an0 : Option Addr} {sl0 : Array (Option Value)} {oc0 kV0 dc0 pm0 cd0 ct0 : Value}
    (a0 : PySem.W.nsIn K mainGlobals "neighbours" = some (some (.ref f0)))
    (l0 : K.lookup f0 = some ⟨oc0, od0, .func (PySem.W.fnOf "neighbours" "neighbours" (defArgs s_neighbours) (defBody s_neighbours) (defScope s_neighbours) .none kV0 dc0 pm0 an0 cd0 ct0), sl0⟩) (c0 : PySem.W.codeIn K cd0 "neighbours" = true) (k0 : PySem.W.keepIn K (.ref f0) = true)
    {f1 : Addr} {od1 an1 : Option Addr} {sl1 : Array (Option Value)} {oc1 kV1 dc1 pm1 cd1 ct1 : Value}
    (a1 : PySem.W.nsIn K mainGlobals "chain_edges" = some (some (.ref f1)))
    (l1 : K.lookup f1 = some ⟨oc1, od1, .func (PySem.W.fnOf "chain_edges" "chain_edges" (defArgs s_chain_edges) (defBody s_chain_edges) (defScope s_chain_edges) .none kV1 dc1 pm1 an1 cd1 ct1), sl1⟩) (c1 : PySem.W.codeIn K cd1 "chain_edges" = true) (k1 : PySem.W.keepIn K (.ref f1) = true)
    {f2 : Addr} {od2 an2 : Option Addr} {sl2 : Array (Option Value)} {oc2 kV2 dc2 pm2 cd2 ct2 : Value}
    (a2 : PySem.W.nsIn K mainGlobals "has_all" = some (some (.ref f2)))
    (l2 : K.lookup f2 = some ⟨oc2, od2, .func (PySem.W.fnOf "has_all" "has_all" (defArgs s_has_all) (defBody s_has_all) (defScope s_has_all) .none kV2 dc2 pm2 an2 cd2 ct2), sl2⟩) (c2 : PySem.W.codeIn K cd2 "has_all" = true) (k2 : PySem.W.keepIn K (.ref f2) = true)
    {f3 : Addr} {od3 an3 : Option Addr} {sl3 : Array (Option Value)} {oc3 kV3 dc3 pm3 cd3 ct3 : Value}
    (a3 : PySem.W.nsIn K mainGlobals "accepts" = some (some (.ref f3)))
    (l3 : K.lookup f3 = some ⟨oc3, od3, .func (PySem.W.fnOf "accepts" "accepts" (defArgs s_accepts) (defBody s_accepts) (defScope s_accepts) .none kV3 dc3 pm3 an3 cd3 ct3), sl3⟩) (c3 : PySem.W.codeIn K cd3 "accepts" = true) (k3 : PySem.W.keepIn K (.ref f3) = true)
    {f4 : Addr} {od4 an4 : Option Addr} {sl4 : Array (Option Value)} {oc4 kV4 dc4 pm4 cd4 ct4 : Value}
    (a4 : PySem.W.nsIn K mainGlobals "channel_kind" = some (some (.ref f4)))
    (l4 : K.lookup f4 = some ⟨oc4, od4, .func (PySem.W.fnOf "channel_kind" "channel_kind" (defArgs s_channel_kind) (defBody s_channel_kind) (defScope s_channel_kind) .none kV4 dc4 pm4 an4 cd4 ct4), sl4⟩) (c4 : PySem.W.codeIn K cd4 "channel_kind" = true) (k4 : PySem.W.keepIn K (.ref f4) = true)
    {f5 : Addr} {od5 an5 : Option Addr} {sl5 : Array (Option Value)} {oc5 kV5 dc5 pm5 cd5 ct5 : Value}
    (a5 : PySem.W.nsIn K mainGlobals "channel_words" = some (some (.ref f5)))
    (l5 : K.lookup f5 = some ⟨oc5, od5, .func (PySem.W.fnOf "channel_words" "channel_words" (defArgs s_channel_words) (defBody s_channel_words) (defScope s_channel_words) .none kV5 dc5 pm5 an5 cd5 ct5), sl5⟩) (c5 : PySem.W.codeIn K cd5 "channel_words" = true) (k5 : PySem.W.keepIn K (.ref f5) = true)
    {f6 : Addr} {od6 an6 : Option Addr} {sl6 : Array (Option Value)} {oc6 kV6 dc6 pm6 cd6 ct6 : Value}
    (a6 : PySem.W.nsIn K mainGlobals "word_owner" = some (some (.ref f6)))
    (l6 : K.lookup f6 = some ⟨oc6, od6, .func (PySem.W.fnOf "word_owner" "word_owner" (defArgs s_word_owner) (defBody s_word_owner) (defScope s_word_owner) .none kV6 dc6 pm6 an6 cd6 ct6), sl6⟩) (c6 : PySem.W.codeIn K cd6 "word_owner" = true) (k6 : PySem.W.keepIn K (.ref f6) = true)
    {f7 : Addr} {od7 an7 : Option Addr} {sl7 : Array (Option Value)} {oc7 kV7 dc7 pm7 cd7 ct7 : Value}
    (a7 : PySem.W.nsIn K mainGlobals "all_chains" = some (some (.ref f7)))
    (l7 : K.lookup f7 = some ⟨oc7, od7, .func (PySem.W.fnOf "all_chains" "all_chains" (defArgs s_all_chains) (defBody s_all_chains) (defScope s_all_chains) .none kV7 dc7 pm7 an7 cd7 ct7), sl7⟩) (c7 : PySem.W.codeIn K cd7 "all_chains" = true) (k7 : PySem.W.keepIn K (.ref f7) = true)
    {f8 : Addr} {od8 an8 : Option Addr} {sl8 : Array (Option Value)} {oc8 kV8 dc8 pm8 cd8 ct8 : Value}
    (a8 : PySem.W.nsIn K mainGlobals "edges" = some (some (.ref f8)))
    (l8 : K.lookup f8 = some ⟨oc8, od8, .func (PySem.W.fnOf "edges" "edges" (defArgs s_edges) (defBody s_edges) (defScope s_edges) .none kV8 dc8 pm8 an8 cd8 ct8), sl8⟩) (c8 : PySem.W.codeIn K cd8 "edges" = true) (k8 : PySem.W.keepIn K (.ref f8) = true)
    {f9 : Addr} {od9 an9 : Option Addr} {sl9 : Array (Option Value)} {oc9 kV9 dc9 pm9 cd9 ct9 : Value}
    (a9 : PySem.W.nsIn K mainGlobals "_law_reads" = some (some (.ref f9)))
    (l9 : K.lookup f9 = some ⟨oc9, od9, .func (PySem.W.fnOf "_law_reads" "_law_reads" (defArgs s__law_reads) (defBody s__law_reads) (defScope s__law_reads) .none kV9 dc9 pm9 an9 cd9 ct9), sl9⟩) (c9 : PySem.W.codeIn K cd9 "_law_reads" = true) (k9 : PySem.W.keepIn K (.ref f9) = true)
    {f10 : Addr} {od10 an10 : Option Addr} {sl10 : Array (Option Value)} {oc10 kV10 dc10 pm10 cd10 ct10 : Value}
    (a10 : PySem.W.nsIn K mainGlobals "_law_kind" = some (some (.ref f10)))
    (l10 : K.lookup f10 = some ⟨oc10, od10, .func (PySem.W.fnOf "_law_kind" "_law_kind" (defArgs s__law_kind) (defBody s__law_kind) (defScope s__law_kind) .none kV10 dc10 pm10 an10 cd10 ct10), sl10⟩) (c10 : PySem.W.codeIn K cd10 "_law_kind" = true) (k10 : PySem.W.keepIn K (.ref f10) = true)
    {f11 : Addr} {od11 an11 : Option Addr} {sl11 : Array (Option Value)} {oc11 kV11 dc11 pm11 cd11 ct11 : Value}
    (a11 : PySem.W.nsIn K mainGlobals "_law_pairs" = some (some (.ref f11)))
    (l11 : K.lookup f11 = some ⟨oc11, od11, .func (PySem.W.fnOf "_law_pairs" "_law_pairs" (defArgs s__law_pairs) (defBody s__law_pairs) (defScope s__law_pairs) .none kV11 dc11 pm11 an11 cd11 ct11), sl11⟩) (c11 : PySem.W.codeIn K cd11 "_law_pairs" = true) (k11 : PySem.W.keepIn K (.ref f11) = true)
    {f12 : Addr} {od12 an12 : Option Addr} {sl12 : Array (Option Value)} {oc12 kV12 dc12 pm12 cd12 ct12 : Value}
    (a12 : PySem.W.nsIn K mainGlobals "_law_steps" = some (some (.ref f12)))
    (l12 : K.lookup f12 = some ⟨oc12, od12, .func (PySem.W.fnOf "_law_steps" "_law_steps" (defArgs s__law_steps) (defBody s__law_steps) (defScope s__law_steps) .none kV12 dc12 pm12 an12 cd12 ct12), sl12⟩) (c12 : PySem.W.codeIn K cd12 "_law_steps" = true) (k12 : PySem.W.keepIn K (.ref f12) = true)
    {f13 : Addr} {od13 an13 : Option Addr} {sl13 : Array (Option Value)} {oc13 kV13 dc13 pm13 cd13 ct13 : Value}
    (a13 : PySem.W.nsIn K mainGlobals "_law_edges" = some (some (.ref f13)))
    (l13 : K.lookup f13 = some ⟨oc13, od13, .func (PySem.W.fnOf "_law_edges" "_law_edges" (defArgs s__law_edges) (defBody s__law_edges) (defScope s__law_edges) .none kV13 dc13 pm13 an13 cd13 ct13), sl13⟩) (c13 : PySem.W.codeIn K cd13 "_law_edges" = true) (k13 : PySem.W.keepIn K (.ref f13) = true)
    {f14 : Addr} {od14 an14 : Option Addr} {sl14 : Array (Option Value)} {oc14 kV14 dc14 pm14 cd14 ct14 : Value}
    (a14 : PySem.W.nsIn K mainGlobals "is_ascending" = some (some (.ref f14)))
    (l14 : K.lookup f14 = some ⟨oc14, od14, .func (PySem.W.fnOf "is_ascending" "is_ascending" (defArgs s_is_ascending) (defBody s_is_ascending) (defScope s_is_ascending) .none kV14 dc14 pm14 an14 cd14 ct14), sl14⟩) (c14 : PySem.W.codeIn K cd14 "is_ascending" = true) (k14 : PySem.W.keepIn K (.ref f14) = true)
    {f15 : Addr} {od15 an15 : Option Addr} {sl15 : Array (Option Value)} {oc15 kV15 dc15 pm15 cd15 ct15 : Value}
    (a15 : PySem.W.nsIn K mainGlobals "is_name" = some (some (.ref f15)))
    (l15 : K.lookup f15 = some ⟨oc15, od15, .func (PySem.W.fnOf "is_name" "is_name" (defArgs s_is_name) (defBody s_is_name) (defScope s_is_name) .none kV15 dc15 pm15 an15 cd15 ct15), sl15⟩) (c15 : PySem.W.codeIn K cd15 "is_name" = true) (k15 : PySem.W.keepIn K (.ref f15) = true)
    {f16 : Addr} {od16 an16 : Option Addr} {sl16 : Array (Option Value)} {oc16 kV16 dc16 pm16 cd16 ct16 : Value}
    (a16 : PySem.W.nsIn K mainGlobals "is_names" = some (some (.ref f16)))
    (l16 : K.lookup f16 = some ⟨oc16, od16, .func (PySem.W.fnOf "is_names" "is_names" (defArgs s_is_names) (defBody s_is_names) (defScope s_is_names) .none kV16 dc16 pm16 an16 cd16 ct16), sl16⟩) (c16 : PySem.W.codeIn K cd16 "is_names" = true) (k16 : PySem.W.keepIn K (.ref f16) = true)
    {f17 : Addr} {od17 an17 : Option Addr} {sl17 : Array (Option Value)} {oc17 kV17 dc17 pm17 cd17 ct17 : Value}
    (a17 : PySem.W.nsIn K mainGlobals "is_fields" = some (some (.ref f17)))
    (l17 : K.lookup f17 = some ⟨oc17, od17, .func (PySem.W.fnOf "is_fields" "is_fields" (defArgs s_is_fields) (defBody s_is_fields) (defScope s_is_fields) .none kV17 dc17 pm17 an17 cd17 ct17), sl17⟩) (c17 : PySem.W.codeIn K cd17 "is_fields" = true) (k17 : PySem.W.keepIn K (.ref f17) = true)
    {f18 : Addr} {od18 an18 : Option Addr} {sl18 : Array (Option Value)} {oc18 kV18 dc18 pm18 cd18 ct18 : Value}
    (a18 : PySem.W.nsIn K mainGlobals "is_reader" = some (some (.ref f18)))
    (l18 : K.lookup f18 = some ⟨oc18, od18, .func (PySem.W.fnOf "is_reader" "is_reader" (defArgs s_is_reader) (defBody s_is_reader) (defScope s_is_reader) .none kV18 dc18 pm18 an18 cd18 ct18), sl18⟩) (c18 : PySem.W.codeIn K cd18 "is_reader" = true) (k18 : PySem.W.keepIn K (.ref f18) = true)
    {f19 : Addr} {od19 an19 : Option Addr} {sl19 : Array (Option Value)} {oc19 kV19 dc19 pm19 cd19 ct19 : Value}
    (a19 : PySem.W.nsIn K mainGlobals "is_format" = some (some (.ref f19)))
    (l19 : K.lookup f19 = some ⟨oc19, od19, .func (PySem.W.fnOf "is_format" "is_format" (defArgs s_is_format) (defBody s_is_format) (defScope s_is_format) .none kV19 dc19 pm19 an19 cd19 ct19), sl19⟩) (c19 : PySem.W.codeIn K cd19 "is_format" = true) (k19 : PySem.W.keepIn K (.ref f19) = true)
    {f20 : Addr} {od20 an20 : Option Addr} {sl20 : Array (Option Value)} {oc20 kV20 dc20 pm20 cd20 ct20 : Value}
    (a20 : PySem.W.nsIn K mainGlobals "is_channel" = some (some (.ref f20)))
    (l20 : K.lookup f20 = some ⟨oc20, od20, .func (PySem.W.fnOf "is_channel" "is_channel" (defArgs s_is_channel) (defBody s_is_channel) (defScope s_is_channel) .none kV20 dc20 pm20 an20 cd20 ct20), sl20⟩) (c20 : PySem.W.codeIn K cd20 "is_channel" = true) (k20 : PySem.W.keepIn K (.ref f20) = true)
    {f21 : Addr} {od21 an21 : Option Addr} {sl21 : Array (Option Value)} {oc21 kV21 dc21 pm21 cd21 ct21 : Value}
    (a21 : PySem.W.nsIn K mainGlobals "is_channels" = some (some (.ref f21)))
    (l21 : K.lookup f21 = some ⟨oc21, od21, .func (PySem.W.fnOf "is_channels" "is_channels" (defArgs s_is_channels) (defBody s_is_channels) (defScope s_is_channels) .none kV21 dc21 pm21 an21 cd21 ct21), sl21⟩) (c21 : PySem.W.codeIn K cd21 "is_channels" = true) (k21 : PySem.W.keepIn K (.ref f21) = true)
    {f22 : Addr} {od22 an22 : Option Addr} {sl22 : Array (Option Value)} {oc22 kV22 dc22 pm22 cd22 ct22 : Value}
    (a22 : PySem.W.findIn K (.ref CSystem) "__init__" = some (some (.ref f22))) (i22 : PySem.W.isFn K (.ref f22) = true)
    (l22 : K.lookup f22 = some ⟨oc22, od22, .func (PySem.W.fnOf "__init__" "System.__init__" (defArgs s_System___init__) (defBody s_System___init__) (defScope s_System___init__) .none kV22 dc22 pm22 an22 cd22 ct22), sl22⟩) (c22 : PySem.W.codeIn K cd22 "System.__init__" = true) (k22 : PySem.W.keepIn K (.ref f22) = true)
    {f23 : Addr} {od23 an23 : Option Addr} {sl23 : Array (Option Value)} {oc23 kV23 dc23 pm23 cd23 ct23 : Value}
    (a23 : PySem.W.nsIn K mainGlobals "_law_more" = some (some (.ref f23)))
    (l23 : K.lookup f23 = some ⟨oc23, od23, .func (PySem.W.fnOf "_law_more" "_law_more" (defArgs s__law_more) (defBody s__law_more) (defScope s__law_more) .none kV23 dc23 pm23 an23 cd23 ct23), sl23⟩) (c23 : PySem.W.codeIn K cd23 "_law_more" = true) (k23 : PySem.W.keepIn K (.ref f23) = true)
    {f24 : Addr} {od24 an24 : Option Addr} {sl24 : Array (Option Value)} {oc24 kV24 dc24 pm24 cd24 ct24 : Value}
    (a24 : PySem.W.nsIn K mainGlobals "_law_take" = some (some (.ref f24)))
    (l24 : K.lookup f24 = some ⟨oc24, od24, .func (PySem.W.fnOf "_law_take" "_law_take" (defArgs s__law_take) (defBody s__law_take) (defScope s__law_take) .none kV24 dc24 pm24 an24 cd24 ct24), sl24⟩) (c24 : PySem.W.codeIn K cd24 "_law_take" = true) (k24 : PySem.W.keepIn K (.ref f24) = true)
    {f25 : Addr} {od25 an25 : Option Addr} {sl25 : Array (Option Value)} {oc25 kV25 dc25 pm25 cd25 ct25 : Value}
    (a25 : PySem.W.nsIn K mainGlobals "_law_of" = some (some (.ref f25)))
    (l25 : K.lookup f25 = some ⟨oc25, od25, .func (PySem.W.fnOf "_law_of" "_law_of" (defArgs s__law_of) (defBody s__law_of) (defScope s__law_of) .none kV25 dc25 pm25 an25 cd25 ct25), sl25⟩) (c25 : PySem.W.codeIn K cd25 "_law_of" = true) (k25 : PySem.W.keepIn K (.ref f25) = true)
    {f26 : Addr} {od26 an26 : Option Addr} {sl26 : Array (Option Value)} {oc26 kV26 dc26 pm26 cd26 ct26 : Value}
    (a26 : PySem.W.nsIn K mainGlobals "_law_some" = some (some (.ref f26)))
    (l26 : K.lookup f26 = some ⟨oc26, od26, .func (PySem.W.fnOf "_law_some" "_law_some" (defArgs s__law_some) (defBody s__law_some) (defScope s__law_some) .none kV26 dc26 pm26 an26 cd26 ct26), sl26⟩) (c26 : PySem.W.codeIn K cd26 "_law_some" = true) (k26 : PySem.W.keepIn K (.ref f26) = true)
    {f27 : Addr} {od27 an27 : Option Addr} {sl27 : Array (Option Value)} {oc27 kV27 dc27 pm27 cd27 ct27 : Value}
    (a27 : PySem.W.nsIn K mainGlobals "_law_loose" = some (some (.ref f27)))
    (l27 : K.lookup f27 = some ⟨oc27, od27, .func (PySem.W.fnOf "_law_loose" "_law_loose" (defArgs s__law_loose) (defBody s__law_loose) (defScope s__law_loose) .none kV27 dc27 pm27 an27 cd27 ct27), sl27⟩) (c27 : PySem.W.codeIn K cd27 "_law_loose" = true) (k27 : PySem.W.keepIn K (.ref f27) = true)
    {f28 : Addr} {od28 an28 : Option Addr} {sl28 : Array (Option Value)} {oc28 kV28 dc28 pm28 cd28 ct28 : Value}
    (a28 : PySem.W.nsIn K mainGlobals "_law_pair" = some (some (.ref f28)))
    (l28 : K.lookup f28 = some ⟨oc28, od28, .func (PySem.W.fnOf "_law_pair" "_law_pair" (defArgs s__law_pair) (defBody s__law_pair) (defScope s__law_pair) .none kV28 dc28 pm28 an28 cd28 ct28), sl28⟩) (c28 : PySem.W.codeIn K cd28 "_law_pair" = true) (k28 : PySem.W.keepIn K (.ref f28) = true)
    {f29 : Addr} {od29 an29 : Option Addr} {sl29 : Array (Option Value)} {oc29 kV29 dc29 pm29 cd29 ct29 : Value}
    (a29 : PySem.W.nsIn K mainGlobals "_law_names" = some (some (.ref f29)))
    (l29 : K.lookup f29 = some ⟨oc29, od29, .func (PySem.W.fnOf "_law_names" "_law_names" (defArgs s__law_names) (defBody s__law_names) (defScope s__law_names) .none kV29 dc29 pm29 an29 cd29 ct29), sl29⟩) (c29 : PySem.W.codeIn K cd29 "_law_names" = true) (k29 : PySem.W.keepIn K (.ref f29) = true)
    {f30 : Addr} {od30 an30 : Option Addr} {sl30 : Array (Option Value)} {oc30 kV30 dc30 pm30 cd30 ct30 : Value}
    (a30 : PySem.W.nsIn K mainGlobals "_law_system" = some (some (.ref f30)))
    (l30 : K.lookup f30 = some ⟨oc30, od30, .func (PySem.W.fnOf "_law_system" "_law_system" (defArgs s__law_system) (defBody s__law_system) (defScope s__law_system) .none kV30 dc30 pm30 an30 cd30 ct30), sl30⟩) (c30 : PySem.W.codeIn K cd30 "_law_system" = true) (k30 : PySem.W.keepIn K (.ref f30) = true)
    {f31 : Addr} {od31 an31 : Option Addr} {sl31 : Array (Option Value)} {oc31 kV31 dc31 pm31 cd31 ct31 : Value}
    (a31 : PySem.W.nsIn K mainGlobals "_law_made" = some (some (.ref f31)))
    (l31 : K.lookup f31 = some ⟨oc31, od31, .func (PySem.W.fnOf "_law_made" "_law_made" (defArgs s__law_made) (defBody s__law_made) (defScope s__law_made) .none kV31 dc31 pm31 an31 cd31 ct31), sl31⟩) (c31 : PySem.W.codeIn K cd31 "_law_made" = true) (k31 : PySem.W.keepIn K (.ref f31) = true)
    {f32 : Addr} {od32 an32 : Option Addr} {sl32 : Array (Option Value)} {oc32 kV32 dc32 pm32 cd32 ct32 : Value}
    (a32 : PySem.W.nsIn K mainGlobals "_law_kinds" = some (some (.ref f32)))
    (l32 : K.lookup f32 = some ⟨oc32, od32, .func (PySem.W.fnOf "_law_kinds" "_law_kinds" (defArgs s__law_kinds) (defBody s__law_kinds) (defScope s__law_kinds) .none kV32 dc32 pm32 an32 cd32 ct32), sl32⟩) (c32 : PySem.W.codeIn K cd32 "_law_kinds" = true) (k32 : PySem.W.keepIn K (.ref f32) = true)
    {f33 : Addr} {od33 an33 : Option Addr} {sl33 : Array (Option Value)} {oc33 kV33 dc33 pm33 cd33 ct33 : Value}
    (a33 : PySem.W.nsIn K mainGlobals "_law_right" = some (some (.ref f33)))
    (l33 : K.lookup f33 = some ⟨oc33, od33, .func (PySem.W.fnOf "_law_right" "_law_right" (defArgs s__law_right) (defBody s__law_right) (defScope s__law_right) .none kV33 dc33 pm33 an33 cd33 ct33), sl33⟩) (c33 : PySem.W.codeIn K cd33 "_law_right" = true) (k33 : PySem.W.keepIn K (.ref f33) = true)
    {f34 : Addr} {od34 an34 : Option Addr} {sl34 : Array (Option Value)} {oc34 kV34 dc34 pm34 cd34 ct34 : Value}
    (a34 : PySem.W.nsIn K mainGlobals "_law_urn" = some (some (.ref f34)))
    (l34 : K.lookup f34 = some ⟨oc34, od34, .func (PySem.W.fnOf "_law_urn" "_law_urn" (defArgs s__law_urn) (defBody s__law_urn) (defScope s__law_urn) .none kV34 dc34 pm34 an34 cd34 ct34), sl34⟩) (c34 : PySem.W.codeIn K cd34 "_law_urn" = true) (k34 : PySem.W.keepIn K (.ref f34) = true)
    {f35 : Addr} {od35 an35 : Option Addr} {sl35 : Array (Option Value)} {oc35 kV35 dc35 pm35 cd35 ct35 : Value}
    (a35 : PySem.W.nsIn K mainGlobals "law" = some (some (.ref f35)))
    (l35 : K.lookup f35 = some ⟨oc35, od35, .func (PySem.W.fnOf "law" "law" (defArgs s_law) (defBody s_law) (defScope s_law) .none kV35 dc35 pm35 an35 cd35 ct35), sl35⟩) (c35 : PySem.W.codeIn K cd35 "law" = true) (k35 : PySem.W.keepIn K (.ref f35) = true)
    {u0 : Value} (y0 : PySem.W.nsIn K mainGlobals "LETTERS" = some (some u0)) (x0 : constV (.str (Str.ofString "abcdefghijklmnopqrstuvwxyz")) u0)
    {u1 : Value} (y1 : PySem.W.nsIn K mainGlobals "LONGEST_NAME" = some (some u1)) (x1 : constV (.int 8) u1)
    {u2 : Value} (y2 : PySem.W.nsIn K mainGlobals "MOST_CHANNELS" = some (some u2)) (x2 : constV (.int 40) u2)
    {u3 : Value} (y3 : PySem.W.nsIn K mainGlobals "MOST_FIELDS" = some (some u3)) (x3 : constV (.int 12) u3)
    {u4 : Value} (y4 : PySem.W.nsIn K mainGlobals "MOST_SERVICES" = some (some u4)) (x4 : constV (.int 12) u4)
    {dORDERED_WORDS : Addr} {esORDERED_WORDS : Array DictEntry} {nORDERED_WORDS : Nat} (yTORDERED_WORDS : PySem.W.nsIn K mainGlobals "ORDERED_WORDS" = some (some (.ref dORDERED_WORDS))) (lTORDERED_WORDS : K.lookup dORDERED_WORDS = some ⟨.type "dict", none, .dict esORDERED_WORDS nORDERED_WORDS, #[]⟩) (kTORDERED_WORDS : PySem.W.KeysLit w.params esORDERED_WORDS.toList) (sTORDERED_WORDS : (dORDERED_WORDS == sysModules) = false)
    {bORDERED_WORDS0 : Addr} {bdORDERED_WORDS0 : Option Addr} {biORDERED_WORDS0 : Array Value} {bnORDERED_WORDS0 : Nat} {bsORDERED_WORDS0 : Array (Option Value)} (gTORDERED_WORDS0 : PySem.W.nsIn K dORDERED_WORDS "reader first" = some (some (.ref bORDERED_WORDS0))) (hTORDERED_WORDS0 : K.lookup bORDERED_WORDS0 = some ⟨.type "tuple", bdORDERED_WORDS0, .seq biORDERED_WORDS0 bnORDERED_WORDS0, bsORDERED_WORDS0⟩) (vTORDERED_WORDS0 : Vals ([.str (Str.ofString "read"), .str (Str.ofString "switch")] : List V) biORDERED_WORDS0.toList) (zTORDERED_WORDS0 : biORDERED_WORDS0.size ≤ sizeLine)
    {bORDERED_WORDS1 : Addr} {bdORDERED_WORDS1 : Option Addr} {biORDERED_WORDS1 : Array Value} {bnORDERED_WORDS1 : Nat} {bsORDERED_WORDS1 : Array (Option Value)} (gTORDERED_WORDS1 : PySem.W.nsIn K dORDERED_WORDS "writer first" = some (some (.ref bORDERED_WORDS1))) (hTORDERED_WORDS1 : K.lookup bORDERED_WORDS1 = some ⟨.type "tuple", bdORDERED_WORDS1, .seq biORDERED_WORDS1 bnORDERED_WORDS1, bsORDERED_WORDS1⟩) (vTORDERED_WORDS1 : Vals ([.str (Str.ofString "switch"), .str (Str.ofString "read")] : List V) biORDERED_WORDS1.toList) (zTORDERED_WORDS1 : biORDERED_WORDS1.size ≤ sizeLine)
    {bORDERED_WORDS2 : Addr} {bdORDERED_WORDS2 : Option Addr} {biORDERED_WORDS2 : Array Value} {bnORDERED_WORDS2 : Nat} {bsORDERED_WORDS2 : Array (Option Value)} (gTORDERED_WORDS2 : PySem.W.nsIn K dORDERED_WORDS "split" = some (some (.ref bORDERED_WORDS2))) (hTORDERED_WORDS2 : K.lookup bORDERED_WORDS2 = some ⟨.type "tuple", bdORDERED_WORDS2, .seq biORDERED_WORDS2 bnORDERED_WORDS2, bsORDERED_WORDS2⟩) (vTORDERED_WORDS2 : Vals ([.str (Str.ofString "widen"), .str (Str.ofString "switch"), .str (Str.ofString "narrow")] : List V) biORDERED_WORDS2.toList) (zTORDERED_WORDS2 : biORDERED_WORDS2.size ≤ sizeLine)
    (z_zip : PySem.W.nsIn K mainGlobals "zip" = some none) (z_tuple : PySem.W.nsIn K mainGlobals "tuple" = some none) (z_sorted : PySem.W.nsIn K mainGlobals "sorted" = some none) (z_all : PySem.W.nsIn K mainGlobals "all" = some none) (z_len : PySem.W.nsIn K mainGlobals "len" = some none) (z_isinstance : PySem.W.nsIn K mainGlobals "isinstance" = some none) (z_str : PySem.W.nsIn K mainGlobals "str" = some none) (z_range : PySem.W.nsIn K mainGlobals "range" = some none) (z_set : PySem.W.nsIn K mainGlobals "set" = some none) (z_min : PySem.W.nsIn K mainGlobals "min" = some none) (z_repr : PySem.W.nsIn K mainGlobals "repr" = some none) (z_abs : PySem.W.nsIn K mainGlobals "abs" = some none) (z_int : PySem.W.nsIn K mainGlobals "int" = some none) (z_max : PySem.W.nsIn K mainGlobals "max" = some none) :
    ∃ fd, Fun K "law" "law" s_law fa fd ∧ ∀ base : Heap, K.In base → base.Ns mainGlobals mg → DFn l.prog w K mg base 12 "law" "law" s_law ["_law_script"] S_law := by
  have e := hfa.symm.trans (PySem.W.mg_of KX G a35)
  cases e
  have clSystem : Cls K CSystem := ⟨pgSystem, hdSystem, poSystem, saSystem⟩
  have cfSystem : ClsF K "System" ["services", "channels"] := ⟨CSystem, aCSystem, clSystem, fun f hf => by
    simp only [List.mem_cons, List.not_mem_nil, or_false] at hf
    rcases hf with rfl | rfl
    · exact nSystem_services
    · exact nSystem_channels⟩
  have tbORDERED_WORDS : KTab K w mg "ORDERED_WORDS" ["reader first", "writer first", "split"] [["read", "switch"], ["switch", "read"], ["widen", "switch", "narrow"]] := by
    refine ⟨dORDERED_WORDS, esORDERED_WORDS, nORDERED_WORDS, PySem.W.mg_of KX G yTORDERED_WORDS, ⟨lTORDERED_WORDS, kTORDERED_WORDS, sTORDERED_WORDS⟩, fun i z ws e1 e2 => ?_⟩
    match i, e1, e2 with
    | 0, e1, e2 => cases e1; cases e2; exact ⟨bORDERED_WORDS0, gTORDERED_WORDS0, fun H => .inr ⟨_, _, _, hTORDERED_WORDS0, rfl, rfl, zTORDERED_WORDS0, vTORDERED_WORDS0⟩⟩
    | 1, e1, e2 => cases e1; cases e2; exact ⟨bORDERED_WORDS1, gTORDERED_WORDS1, fun H => .inr ⟨_, _, _, hTORDERED_WORDS1, rfl, rfl, zTORDERED_WORDS1, vTORDERED_WORDS1⟩⟩
    | 2, e1, e2 => cases e1; cases e2; exact ⟨bORDERED_WORDS2, gTORDERED_WORDS2, fun H => .inr ⟨_, _, _, hTORDERED_WORDS2, rfl, rfl, zTORDERED_WORDS2, vTORDERED_WORDS2⟩⟩
    | (n + 3), e1, e2 => simp at e1
  have T : Txt K w mg := ⟨PySem.W.mg_none_of KX G z_zip, PySem.W.mg_none_of KX G z_tuple, PySem.W.mg_none_of KX G z_sorted, PySem.W.mg_none_of KX G z_all, PySem.W.mg_none_of KX G z_len, PySem.W.mg_none_of KX G z_isinstance, PySem.W.mg_none_of KX G z_str, PySem.W.mg_none_of KX G z_range, PySem.W.mg_none_of KX G z_set, PySem.W.mg_none_of KX G z_min, PySem.W.mg_none_of KX G z_repr, PySem.W.mg_none_of KX G z_abs, PySem.W.mg_none_of KX G z_int, PySem.W.mg_none_of KX G z_max, ⟨_, PySem.W.mg_of KX G y0, x0⟩, ⟨_, PySem.W.mg_of KX G y1, x1⟩, ⟨_, PySem.W.mg_of KX G y2, x2⟩, ⟨_, PySem.W.mg_of KX G y3, x3⟩, ⟨_, PySem.W.mg_of KX G y4, x4⟩, tbORDERED_WORDS, cfSystem⟩
  have F0 := fun_mk (st := s_neighbours) l0 c0 k0
  have F1 := fun_mk (st := s_chain_edges) l1 c1 k1
  have F2 := fun_mk (st := s_has_all) l2 c2 k2
  have F3 := fun_mk (st := s_accepts) l3 c3 k3
  have F4 := fun_mk (st := s_channel_kind) l4 c4 k4
  have F5 := fun_mk (st := s_channel_words) l5 c5 k5
  have F6 := fun_mk (st := s_word_owner) l6 c6 k6
  have F7 := fun_mk (st := s_all_chains) l7 c7 k7
  have F8 := fun_mk (st := s_edges) l8 c8 k8
  have F9 := fun_mk (st := s__law_reads) l9 c9 k9
  have F10 := fun_mk (st := s__law_kind) l10 c10 k10
  have F11 := fun_mk (st := s__law_pairs) l11 c11 k11
  have F12 := fun_mk (st := s__law_steps) l12 c12 k12
  have F13 := fun_mk (st := s__law_edges) l13 c13 k13
  have F14 := fun_mk (st := s_is_ascending) l14 c14 k14
  have F15 := fun_mk (st := s_is_name) l15 c15 k15
  have F16 := fun_mk (st := s_is_names) l16 c16 k16
  have F17 := fun_mk (st := s_is_fields) l17 c17 k17
  have F18 := fun_mk (st := s_is_reader) l18 c18 k18
  have F19 := fun_mk (st := s_is_format) l19 c19 k19
  have F20 := fun_mk (st := s_is_channel) l20 c20 k20
  have F21 := fun_mk (st := s_is_channels) l21 c21 k21
  have F22 := fun_mk (st := s_System___init__) l22 c22 k22
  have F23 := fun_mk (st := s__law_more) l23 c23 k23
  have F24 := fun_mk (st := s__law_take) l24 c24 k24
  have F25 := fun_mk (st := s__law_of) l25 c25 k25
  have F26 := fun_mk (st := s__law_some) l26 c26 k26
  have F27 := fun_mk (st := s__law_loose) l27 c27 k27
  have F28 := fun_mk (st := s__law_pair) l28 c28 k28
  have F29 := fun_mk (st := s__law_names) l29 c29 k29
  have F30 := fun_mk (st := s__law_system) l30 c30 k30
  have F31 := fun_mk (st := s__law_made) l31 c31 k31
  have F32 := fun_mk (st := s__law_kinds) l32 c32 k32
  have F33 := fun_mk (st := s__law_right) l33 c33 k33
  have F34 := fun_mk (st := s__law_urn) l34 c34 k34
  have F35 := fun_mk (st := s_law) l35 c35 k35
  refine ⟨_, F35, fun base _ _ => ?_⟩
  have C_neighbours := ok_neighbours (P := l.prog) (w := w) (base := base) T F0 (PySem.W.mg_of KX G a0)
  have C_chain_edges := ok_chain_edges (P := l.prog) (w := w) (base := base) T C_neighbours F1 (PySem.W.mg_of KX G a1)
  have C_has_all := ok_has_all (P := l.prog) (w := w) (base := base) T F2 (PySem.W.mg_of KX G a2)
  have C_accepts := ok_accepts (P := l.prog) (w := w) (base := base) T C_has_all F3 (PySem.W.mg_of KX G a3)
  have C_channel_kind := ok_channel_kind (P := l.prog) (w := w) (base := base) T C_accepts F4 (PySem.W.mg_of KX G a4)
  have C_channel_words := ok_channel_words (P := l.prog) (w := w) (base := base) T C_channel_kind F5 (PySem.W.mg_of KX G a5)
  have C_word_owner := ok_word_owner (P := l.prog) (w := w) (base := base) T F6 (PySem.W.mg_of KX G a6)
  have C_all_chains := ok_all_chains (P := l.prog) (w := w) (base := base) T C_channel_words C_word_owner F7 (PySem.W.mg_of KX G a7)
  have C_edges := ok_edges (P := l.prog) (w := w) (base := base) T C_chain_edges C_all_chains F8 (PySem.W.mg_of KX G a8)
  have C__law_reads := ok__law_reads (P := l.prog) (w := w) (base := base) T F9 (PySem.W.mg_of KX G a9)
  have C__law_kind := ok__law_kind (P := l.prog) (w := w) (base := base) T C__law_reads F10 (PySem.W.mg_of KX G a10)
  have C__law_pairs := ok__law_pairs (P := l.prog) (w := w) (base := base) T C__law_kind F11 (PySem.W.mg_of KX G a11)
  have C__law_steps := ok__law_steps (P := l.prog) (w := w) (base := base) T C__law_kind F12 (PySem.W.mg_of KX G a12)
  have C__law_edges := ok__law_edges (P := l.prog) (w := w) (base := base) T C__law_pairs C__law_steps F13 (PySem.W.mg_of KX G a13)
  have C_is_ascending := ok_is_ascending (P := l.prog) (w := w) (base := base) T F14 (PySem.W.mg_of KX G a14)
  have C_is_name := ok_is_name (P := l.prog) (w := w) (base := base) T F15 (PySem.W.mg_of KX G a15)
  have C_is_names := ok_is_names (P := l.prog) (w := w) (base := base) T C_is_ascending C_is_name F16 (PySem.W.mg_of KX G a16)
  have C_is_fields := ok_is_fields (P := l.prog) (w := w) (base := base) T C_is_names F17 (PySem.W.mg_of KX G a17)
  have C_is_reader := ok_is_reader (P := l.prog) (w := w) (base := base) T C_has_all C_is_fields F18 (PySem.W.mg_of KX G a18)
  have C_is_format := ok_is_format (P := l.prog) (w := w) (base := base) T C_accepts C_is_reader C_is_fields F19 (PySem.W.mg_of KX G a19)
  have C_is_channel := ok_is_channel (P := l.prog) (w := w) (base := base) T C_is_format C_is_name F20 (PySem.W.mg_of KX G a20)
  have C_is_channels := ok_is_channels (P := l.prog) (w := w) (base := base) T C_is_ascending C_is_channel F21 (PySem.W.mg_of KX G a21)
  have C_System___init__ := ok_System___init__ (P := l.prog) (w := w) (base := base) T C_is_channels C_is_names aCSystem (PySem.W.mg_of KX G aCSystem) ⟨mkSystem, a22, i22, kcSystem⟩ F22
  have C__law_more := ok__law_more (P := l.prog) (w := w) (base := base) T F23 (PySem.W.mg_of KX G a23)
  have C__law_take := ok__law_take (P := l.prog) (w := w) (base := base) T F24 (PySem.W.mg_of KX G a24)
  have C__law_of := ok__law_of (P := l.prog) (w := w) (base := base) T C__law_take F25 (PySem.W.mg_of KX G a25)
  have C__law_some := ok__law_some (P := l.prog) (w := w) (base := base) T C__law_take F26 (PySem.W.mg_of KX G a26)
  have C__law_loose := ok__law_loose (P := l.prog) (w := w) (base := base) T C__law_some C__law_of F27 (PySem.W.mg_of KX G a27)
  have C__law_pair := ok__law_pair (P := l.prog) (w := w) (base := base) T C__law_more C__law_of C__law_take C__law_loose F28 (PySem.W.mg_of KX G a28)
  have C__law_names := ok__law_names (P := l.prog) (w := w) (base := base) T C__law_take C__law_of F29 (PySem.W.mg_of KX G a29)
  have C__law_system := ok__law_system (P := l.prog) (w := w) (base := base) T C__law_pair C__law_of C__law_names C__law_take F30 (PySem.W.mg_of KX G a30)
  have C__law_made := ok__law_made (P := l.prog) (w := w) (base := base) T C_System___init__ C__law_system F31 (PySem.W.mg_of KX G a31)
  have C__law_kinds := ok__law_kinds (P := l.prog) (w := w) (base := base) T F32 (PySem.W.mg_of KX G a32)
  have C__law_right := ok__law_right (P := l.prog) (w := w) (base := base) T C_edges C__law_edges C__law_made C__law_kinds F33 (PySem.W.mg_of KX G a33)
  have C__law_urn := ok__law_urn (P := l.prog) (w := w) (base := base) T F34 (PySem.W.mg_of KX G a34)
  have C_law := ok_law (P := l.prog) (w := w) (base := base) T C__law_right C__law_urn F35 (PySem.W.mg_of KX G a35)
  exact C_law
end K21
open PySem PySem.W PyProof.Rows
set_option maxRecDepth 100000 in
set_option maxHeartbeats 0 in
theorem PySem.Challenge.cw_fewreleases_k21_edges_between_services_holds : PySem.Challenge.rw_fewreleases_k21_edges_between_services.Holds := by
  w_on; o_law; k_head; (case hw => w_witness2)
  k_fill
  refine Vf.walkG (l := PySem.Challenge.rw_fewreleases_k21_edges_between_services) (n := 63) (k := 12) (st := K21.s_law) (x := "_law_script") (S := K21.S_law) rfl (by decide) rfl ⟨rfl, by decide, by decide⟩ (fun w h Y => PySem.W.kIn_of Y) (fun _ _ _ _ _ _ _ => rfl) (fun ns k _ hk => ⟨ns, rfl, hk⟩) ?F
  case F =>
    intro w mg fa h KX G hmg
    refine' K21.all_mk KX G hmg ?aCSystem ?pgSystem ?hdSystem ?poSystem ?saSystem ?mkSystem ?kcSystem ?nSystem_services ?nSystem_channels ?a0 ?l0 ?c0 ?k0 ?a1 ?l1 ?c1 ?k1 ?a2 ?l2 ?c2 ?k2 ?a3 ?l3 ?c3 ?k3 ?a4 ?l4 ?c4 ?k4 ?a5 ?l5 ?c5 ?k5 ?a6 ?l6 ?c6 ?k6 ?a7 ?l7 ?c7 ?k7 ?a8 ?l8 ?c8 ?k8 ?a9 ?l9 ?c9 ?k9 ?a10 ?l10 ?c10 ?k10 ?a11 ?l11 ?c11 ?k11 ?a12 ?l12 ?c12 ?k12 ?a13 ?l13 ?c13 ?k13 ?a14 ?l14 ?c14 ?k14 ?a15 ?l15 ?c15 ?k15 ?a16 ?l16 ?c16 ?k16 ?a17 ?l17 ?c17 ?k17 ?a18 ?l18 ?c18 ?k18 ?a19 ?l19 ?c19 ?k19 ?a20 ?l20 ?c20 ?k20 ?a21 ?l21 ?c21 ?k21 ?a22 ?i22 ?l22 ?c22 ?k22 ?a23 ?l23 ?c23 ?k23 ?a24 ?l24 ?c24 ?k24 ?a25 ?l25 ?c25 ?k25 ?a26 ?l26 ?c26 ?k26 ?a27 ?l27 ?c27 ?k27 ?a28 ?l28 ?c28 ?k28 ?a29 ?l29 ?c29 ?k29 ?a30 ?l30 ?c30 ?k30 ?a31 ?l31 ?c31 ?k31 ?a32 ?l32 ?c32 ?k32 ?a33 ?l33 ?c33 ?k33 ?a34 ?l34 ?c34 ?k34 ?a35 ?l35 ?c35 ?k35 ?y0 ?x0 ?y1 ?x1 ?y2 ?x2 ?y3 ?x3 ?y4 ?x4 ?yTORDERED_WORDS ?lTORDERED_WORDS ?kTORDERED_WORDS ?sTORDERED_WORDS ?gTORDERED_WORDS0 ?hTORDERED_WORDS0 ?vTORDERED_WORDS0 ?zTORDERED_WORDS0 ?gTORDERED_WORDS1 ?hTORDERED_WORDS1 ?vTORDERED_WORDS1 ?zTORDERED_WORDS1 ?gTORDERED_WORDS2 ?hTORDERED_WORDS2 ?vTORDERED_WORDS2 ?zTORDERED_WORDS2 ?z_zip ?z_tuple ?z_sorted ?z_all ?z_len ?z_isinstance ?z_str ?z_range ?z_set ?z_min ?z_repr ?z_abs ?z_int ?z_max
    (case aCSystem => k_is)
    (case pgSystem => k_is)
    (case hdSystem => k_is)
    (case poSystem => k_is)
    (case saSystem => k_is)
    (case mkSystem => k_is)
    (case kcSystem => k_is)
    (case nSystem_services => k_is)
    (case nSystem_channels => k_is)
    (case a0 => k_is)
    (case l0 => k_is)
    (case c0 => k_is)
    (case k0 => k_is)
    (case a1 => k_is)
    (case l1 => k_is)
    (case c1 => k_is)
    (case k1 => k_is)
    (case a2 => k_is)
    (case l2 => k_is)
    (case c2 => k_is)
    (case k2 => k_is)
    (case a3 => k_is)
    (case l3 => k_is)
    (case c3 => k_is)
    (case k3 => k_is)
    (case a4 => k_is)
    (case l4 => k_is)
    (case c4 => k_is)
    (case k4 => k_is)
    (case a5 => k_is)
    (case l5 => k_is)
    (case c5 => k_is)
    (case k5 => k_is)
    (case a6 => k_is)
    (case l6 => k_is)
    (case c6 => k_is)
    (case k6 => k_is)
    (case a7 => k_is)
    (case l7 => k_is)
    (case c7 => k_is)
    (case k7 => k_is)
    (case a8 => k_is)
    (case l8 => k_is)
    (case c8 => k_is)
    (case k8 => k_is)
    (case a9 => k_is)
    (case l9 => k_is)
    (case c9 => k_is)
    (case k9 => k_is)
    (case a10 => k_is)
    (case l10 => k_is)
    (case c10 => k_is)
    (case k10 => k_is)
    (case a11 => k_is)
    (case l11 => k_is)
    (case c11 => k_is)
    (case k11 => k_is)
    (case a12 => k_is)
    (case l12 => k_is)
    (case c12 => k_is)
    (case k12 => k_is)
    (case a13 => k_is)
    (case l13 => k_is)
    (case c13 => k_is)
    (case k13 => k_is)
    (case a14 => k_is)
    (case l14 => k_is)
    (case c14 => k_is)
    (case k14 => k_is)
    (case a15 => k_is)
    (case l15 => k_is)
    (case c15 => k_is)
    (case k15 => k_is)
    (case a16 => k_is)
    (case l16 => k_is)
    (case c16 => k_is)
    (case k16 => k_is)
    (case a17 => k_is)
    (case l17 => k_is)
    (case c17 => k_is)
    (case k17 => k_is)
    (case a18 => k_is)
    (case l18 => k_is)
    (case c18 => k_is)
    (case k18 => k_is)
    (case a19 => k_is)
    (case l19 => k_is)
    (case c19 => k_is)
    (case k19 => k_is)
    (case a20 => k_is)
    (case l20 => k_is)
    (case c20 => k_is)
    (case k20 => k_is)
    (case a21 => k_is)
    (case l21 => k_is)
    (case c21 => k_is)
    (case k21 => k_is)
    (case a22 => k_is)
    (case i22 => k_is)
    (case l22 => k_is)
    (case c22 => k_is)
    (case k22 => k_is)
    (case a23 => k_is)
    (case l23 => k_is)
    (case c23 => k_is)
    (case k23 => k_is)
    (case a24 => k_is)
    (case l24 => k_is)
    (case c24 => k_is)
    (case k24 => k_is)
    (case a25 => k_is)
    (case l25 => k_is)
    (case c25 => k_is)
    (case k25 => k_is)
    (case a26 => k_is)
    (case l26 => k_is)
    (case c26 => k_is)
    (case k26 => k_is)
    (case a27 => k_is)
    (case l27 => k_is)
    (case c27 => k_is)
    (case k27 => k_is)
    (case a28 => k_is)
    (case l28 => k_is)
    (case c28 => k_is)
    (case k28 => k_is)
    (case a29 => k_is)
    (case l29 => k_is)
    (case c29 => k_is)
    (case k29 => k_is)
    (case a30 => k_is)
    (case l30 => k_is)
    (case c30 => k_is)
    (case k30 => k_is)
    (case a31 => k_is)
    (case l31 => k_is)
    (case c31 => k_is)
    (case k31 => k_is)
    (case a32 => k_is)
    (case l32 => k_is)
    (case c32 => k_is)
    (case k32 => k_is)
    (case a33 => k_is)
    (case l33 => k_is)
    (case c33 => k_is)
    (case k33 => k_is)
    (case a34 => k_is)
    (case l34 => k_is)
    (case c34 => k_is)
    (case k34 => k_is)
    (case a35 => k_is)
    (case l35 => k_is)
    (case c35 => k_is)
    (case k35 => k_is)
    (case y0 => k_is)
    (case x0 => exact ⟨_, rfl⟩)
    (case y1 => k_is)
    (case x1 => exact ⟨_, rfl⟩)
    (case y2 => k_is)
    (case x2 => exact ⟨_, rfl⟩)
    (case y3 => k_is)
    (case x3 => exact ⟨_, rfl⟩)
    (case y4 => k_is)
    (case x4 => exact ⟨_, rfl⟩)
    (case yTORDERED_WORDS => k_is)
    (case lTORDERED_WORDS => k_is)
    (case kTORDERED_WORDS => exact ⟨⟨_, _, rfl, rfl⟩, ⟨_, _, rfl, rfl⟩, ⟨_, _, rfl, rfl⟩, trivial⟩)
    (case sTORDERED_WORDS => first | rfl | decide)
    (case gTORDERED_WORDS0 => k_is)
    (case hTORDERED_WORDS0 => k_is)
    (case vTORDERED_WORDS0 => exact (.cons ⟨_, rfl⟩ (.cons ⟨_, rfl⟩ .nil)))
    (case zTORDERED_WORDS0 => exact Vf.szl (by decide))
    (case gTORDERED_WORDS1 => k_is)
    (case hTORDERED_WORDS1 => k_is)
    (case vTORDERED_WORDS1 => exact (.cons ⟨_, rfl⟩ (.cons ⟨_, rfl⟩ .nil)))
    (case zTORDERED_WORDS1 => exact Vf.szl (by decide))
    (case gTORDERED_WORDS2 => k_is)
    (case hTORDERED_WORDS2 => k_is)
    (case vTORDERED_WORDS2 => exact (.cons ⟨_, rfl⟩ (.cons ⟨_, rfl⟩ (.cons ⟨_, rfl⟩ .nil))))
    (case zTORDERED_WORDS2 => exact Vf.szl (by decide))
    (case z_zip => k_is)
    (case z_tuple => k_is)
    (case z_sorted => k_is)
    (case z_all => k_is)
    (case z_len => k_is)
    (case z_isinstance => k_is)
    (case z_str => k_is)
    (case z_range => k_is)
    (case z_set => k_is)
    (case z_min => k_is)
    (case z_repr => k_is)
    (case z_abs => k_is)
    (case z_int => k_is)
    (case z_max => k_is)
