import PyProof.Rows.All
import Wide.All
import OpenK.AllK
import Wide.FinOn
import HandS.Exc
import HandS.ExcOwn
import HandS.ExcInit
import KE.KExcIs
import HandS.Base
import HandS.Call
import HandS.List
import HandS.Comp
import HandS.Ends
import HandS.Dict
import HandS.Iter
import HandS.Text
import HandS.Words
import HandS.WordsList
import HandS.WordsExc
import HandS.CallSlots
import HandS.Flow
import HandS.NoneIn
import HandS.TupAny
import HandS.IsInst
import HandS.FStr
import HandS.More
import HandS.Conv
import KE.GoesEnum
import KE.GoesEnumKw
import HandS.Zip
import HandS.Style
import HandS.EndBits
import HandS.Defaults
import HandS.TupMul
import HandS.RaiseMore
import HandS.Codes
import PySem.Challenge.RW_ringdown_k05_trees_as_texts
set_option Elab.async false
set_option linter.all false
set_option maxRecDepth 100000
set_option maxHeartbeats 4000000

/-! Exceptions that outlive their clause: a caught one becomes a thing of the abstract heap. -/
namespace DL
open PySem L2 PySem.Spec PyProof.Rows

/-- at a: a caught exception of that class, its attributes' dict (if any) at d -/
def exT (a : Addr) (cls : Value) (d : Option Addr) : HO := .ext fun h => ∃ (ob : Obj) (us : Array Value), h.get? a = some ob ∧ Zc cls d ob ∧ ob.data = .fields us
theorem exT_ok {P : Program} {w : World} {H : Hp} {h : Heap} {a : Addr} {cls : Value} {d : Option Addr} {ob : Obj} {us : Array Value} (e : h.get? a = some ob) (z : Zc cls d ob) (f : ob.data = .fields us) : ObjOk P w H h a (exT a cls d) :=
  ⟨⟨ob, us, e, z, f⟩, ⟨ob, e⟩, fun _ _ ⟨o, v, q, r⟩ k => ⟨o, v, k o q, r⟩⟩
theorem exT_at {P : Program} {w : World} {H : Hp} {h : Heap} {a : Addr} {cls : Value} {d : Option Addr} (hok : HOk P w H h) (e : H a = some (exT a cls d)) : ∃ (ob : Obj) (us : Array Value), h.get? a = some ob ∧ Zc cls d ob ∧ ob.data = .fields us := by
  have q := hok a _ e
  exact q.1

section
variable {X : Cx} {pins : List (Addr × Obj)} {σ : L2.St} {H : Hp} {s : Shared}
/-- an object that came behind the def's entry is told of from now on -/
theorem track {a : Addr} {o : HO} (I : Inv X pins σ H s) (na : H a = none) (n0 : X.s_0.heap.get? a = none) (nL : a ≠ X.env.locals) (nC : ∀ x c, X.env.cells.lookup x = some c → c ≠ a) (nP : ∀ p ∈ X.pn ++ pins, p.1 ≠ a)
    (new : ObjOk X.prog X.w (upd H a o) s.heap a o) : Inv X pins σ (upd H a o) s := by
  have off : ∀ {b : Addr} {u : HO}, H b = some u → b ≠ a := fun {b u} e z => by
    rw [z, na] at e
    cases e
  refine { ok := I.ok, os := I.os, bare := I.bare, base := ?_, loc := I.loc, cell := I.cell, free := ?_, freeC := ?_, pin := ?_, hok := ?_, len := I.len }
  · refine { keep := I.base.keep, slot := I.base.slot, there := I.base.there, free := ?_, tups := ?_, frzs := ?_, tbls := ?_ }
    · intro b u e n hx
      have : b ≠ a := fun z => by rw [z, n0] at e; cases e
      rw [upd_ne this]
      exact I.base.free b u e n hx
    · intro b xs e
      have e' := I.base.tups b xs e
      rw [upd_ne (off e')]
      exact e'
    · intro b u xs e
      have e' := I.base.frzs b u xs e
      rw [upd_ne (off e')]
      exact e'
    · intro b ps e
      obtain ⟨m, e'⟩ := I.base.tbls b ps e
      exact ⟨m, by rw [upd_ne (off e')]; exact e'⟩
  · rw [upd_ne (Ne.symm nL)]
    exact I.free
  · intro x c e
    rw [upd_ne (nC x c e)]
    exact I.freeC x c e
  · intro p hp
    obtain ⟨q1, q2, q3⟩ := I.pin p hp
    exact ⟨q1, by rw [upd_ne (nP p hp)]; exact q2, q3⟩
  · intro b u e
    by_cases hb : b = a
    · subst hb
      rw [upd_same] at e
      cases e
      exact new
    · rw [upd_ne hb] at e
      refine (I.hok b u e).stay (fun _ _ _ z => z) (fun c q => ?_) (fun c xs q => ?_)
      · rw [upd_ne (off q)]; exact q
      · rw [upd_ne (off q)]; exact q
/-- into an except clause's suite, nothing pinned; and out of it -/
theorem suiteIn (I : Inv X pins σ H s) (a : Addr) : Inv (X.suite a (X.pn ++ pins)) [] σ H s :=
  { ok := I.ok.suite _ _, os := I.os, bare := I.bare, base := I.base, loc := I.loc, cell := I.cell, free := I.free, freeC := I.freeC, pin := fun p hp => I.pin p (by simpa using hp), hok := I.hok, len := I.len }
theorem suiteOut {a : Addr} {pn' : List (Addr × Obj)} (ok : X.Ok) (I : Inv (X.suite a (X.pn ++ pins)) pn' σ H s) : Inv X pins σ H s :=
  { ok := ok, os := I.os, bare := I.bare, base := I.base, loc := I.loc, cell := I.cell, free := I.free, freeC := I.freeC, pin := fun p hp => I.pin p (List.mem_append_left _ hp), hok := I.hok, len := I.len }
end

/-! ### try: .. except A as n: .. except B as m: .. -/
/-- a clause: its class, the slot of its name, what its suite does -/
structure Cl where
  c : Value
  i : Nat
  ts : TS
def gone (i : Nat) (D : Ends) : Ends := { nx := fun σ H => D.nx (σ.set i none) H, rt := D.rt, bk := fun σ H => D.bk (σ.set i none) H, ct := fun σ H => D.ct (σ.set i none) H }
/-- what the clauses wish of an exception of the body -/
def wCl (K : PySem.W.Frag) (Wout : WX) (D : Ends) : List Cl → WX
  | [] => Wout
  | l :: ls => fun cls d σ H => ∃ b, PySem.W.exmOne K cls l.c = some b ∧ (b = true → ∀ a, H a = none → l.ts (gone l.i D) (σ.set l.i (some (.ref a))) (upd H a (exT a cls d))) ∧ (b = false → wCl K Wout D ls cls d σ H)
inductive ClsOk (X : Cx) : List ExceptHandler → List Cl → Prop
  | nil : ClsOk X [] []
  | cons {x n : Str} {b : Stmt} {body : List Stmt} {p1 p2 : Pos} {hs : List ExceptHandler} {l : Cl} {ls : List Cl} (hN : X.N.Nodup) (hi : X.N[l.i]? = some n) (hln : X.env.kindOf n = some .local) (hc : Names X x l.c)
      (hsu : ∀ (a : Addr) (pn : List (Addr × Obj)), PSs (X.suite a pn) (b :: body) l.ts) (more : ClsOk X hs ls) : ClsOk X (.ExceptHandler (some (.Name x p1)) (some n) (b :: body) p2 :: hs) (l :: ls)

section
variable {X : Cx} {Wout : WX} {pins : List (Addr × Obj)} {σ : L2.St} {H : Hp} {D : Ends} {s : Shared}
/-- an exception that landed goes through the clauses -/
theorem clauses_run (hs : X.stack = X.env :: X.outer) (hf : X.env.frame = some X.env.locals) (hex : X.ex = []) (tk : Takes X Wout) {a : Addr} {B : Heap} {sI : Shared} {cls : Value} {d : Option Addr} {hds : List ExceptHandler} {ls : List Cl} (ok : ClsOk X hds ls)
    (J : Inv X pins σ H sI) (nb : ∀ b o, sI.heap.get? b = some o → b ∉ frs X.stack → B.get? b = some o) (up : sI.heap.UpToSlots s.heap) (fl : HandSPX.FlyingZ B (X.env :: X.outer) a (Zc cls d) s.heap) (na : H a = none) (os : s.os = sI.os) (ag : AllBare s.gens)
    (w : wCl X.K Wout D ls cls d σ H) : wpAny (model X.prog X.w) X.A (handleBy (.ref a) X.env hds) (SP X pins D) X.xe s := by
  obtain ⟨ob, us, e0, z0, d0⟩ := fl.there
  have offr : a ∉ frs (X.env :: X.outer) := fun hm => by
    obtain ⟨_, o1, e1, hnf⟩ := fl.2.2.1.mem hm
    rw [e0] at e1
    cases e1
    exact hnf _ d0
  have nL : a ≠ X.env.locals := fun z => offr (List.mem_filterMap.mpr ⟨X.env, List.mem_cons_self, by rw [hf, z]⟩)
  have newI : sI.heap.get? a = none := by
    cases e : sI.heap.get? a with
    | none => rfl
    | some o =>
      have q := nb a o e (by rw [hs]; exact offr)
      rw [fl.2.1] at q
      cases q
  have n0 : X.s_0.heap.get? a = none := by
    cases e : X.s_0.heap.get? a with
    | none => rfl
    | some o =>
      obtain ⟨o', q⟩ := J.base.there a o e (by rw [hex]; exact fun z => nomatch z)
      rw [newI] at q
      cases q
  have nP : ∀ p ∈ X.pn ++ pins, p.1 ≠ a := fun p hp z => by
    have q := (J.pin p hp).1
    rw [z, newI] at q
    cases q
  have nC : ∀ x c, X.env.cells.lookup x = some c → c ≠ a := fun x c e z => by
    obtain ⟨v, o, e1, _⟩ := J.cell x c e
    rw [z, newI] at e1
    cases e1
  -- the state with the exception told of
  have st : ∀ h', HandSPX.FlyingZ B (X.env :: X.outer) a (Zc cls d) h' → sI.heap.UpToSlots h' → Inv X pins σ H { s with heap := h' } ∧ Inv X pins σ (upd H a (exT a cls d)) { s with heap := h' } := fun h' fl' up' => by
    have I1 : Inv X pins σ H { s with heap := h' } := J.landed nb fl'.1 up' os ag
    obtain ⟨o1, u1, e1, z1, d1⟩ := fl'.there
    exact ⟨I1, track I1 na n0 nL nC nP (exT_ok e1 z1 d1)⟩
  induction ok with
  | nil =>
    refine wpAny_handleBy_nil ?_
    obtain ⟨_, _, _, oe, vs, T, oT, ts, he, _, hd, h1, _⟩ := id fl
    have away : wpAny (model X.prog X.w) X.A (setFlight (.ref a) X.env.frame) (fun _ s4 => wpAny (model X.prog X.w) X.A (throw (.ref a) : Sem Flow) (SP X pins D) X.xe s4) X.xe s := by
      rw [hf]
      refine HandSPX.setFlight_upZ fl fun h4 held up4 => wpAny_throw (tk _ _ ?_)
      refine ⟨a, B, sI, pins, σ, H, cls, d, rfl, J, nb, up.trans up4, .inr (.inr ?_), na, os, ag, w⟩
      rw [hs]
      exact held
    unfold PySem.passOn
    refine wpAny_bind (wpAny_field he hd h1 ?_)
    rw [if_neg (by simp)]
    first
      | exact wpAny_bind (wpAny_pure (wpAny_bind away))
      | exact wpAny_bind away
  | @cons x n b₁ rest p1 p2 hds2 l ls2 hN hi hln hc hsu more ih =>
    obtain ⟨b, hb, yes, no⟩ := w
    refine wpAny_handleBy_cons (codeAny_handlers_test ?_) (fun q => nomatch q)
    obtain ⟨I1, I2⟩ := st s.heap fl up
    have S1 := suiteIn I1 a
    have ty : PySem.W.Looks (model X.prog X.w) s.heap (typeOf (.ref a)) cls := fun A Q E s' k q => wpAny_typeOf_ref (k _ _ e0) (by rw [z0.1]; exact q)
    have fits := PySem.W.exm_one (M := model X.prog X.w) I1.kIn ty hb
    have named : ∀ {Q : Value → Shared → Prop} {E : Value → Shared → Prop}, Q l.c s → wpAny (model X.prog X.w) (X.A.mark (some (.ref a))) (eval (.Name x p1) X.env) Q E s := fun {Q E} q => by
      obtain ⟨hg, hdb, hm | ⟨hm, hv, hn⟩⟩ := hc
      · exact ld_glob (X := X.suite a (X.pn ++ pins)) S1 hg hm q hdb
      · exact ld_blt (X := X.suite a (X.pn ++ pins)) S1 hg hm hv q hn hdb
    refine named (fits.here ?_)
    cases b with
    | false => exact ih (no rfl)
    | true =>
      refine codeAny_handlers_suite_as (HandSPX.lands_againZ fl fun h4 fl4 up4 => ?_)
      obtain ⟨_, I4⟩ := st h4 fl4 (up.trans up4)
      have S4 := suiteIn I4 a
      refine store_ok (X := X.suite a (X.pn ++ pins)) (v := .ref a) S4 hN hi (.inl hln) rfl (fun s5 S5 => ?_) (.inr hln)
      refine wpAny_mono ((hsu a (X.pn ++ pins)).run [] s5 _ _ _ S5 (yes rfl a na)) (fun f s6 hsp => ?_) (fun _ _ z => False.elim z)
      have shut : ∀ {σ6 : L2.St} {H6 : Hp} {Q : Shared → Prop}, Inv (X.suite a (X.pn ++ pins)) [] σ6 H6 s6 → (∀ s7, Inv X pins (σ6.set l.i none) H6 s7 → Q s7) → wpAny (model X.prog X.w) X.A (do bindName X.env n .none; unbindBehindTheSuite X.env n p2) (fun _ s7 => Q s7) X.xe s6 :=
        fun S6 hq => gone_ok (suiteOut I1.ok S6) hN hi hln hq
      match f, hsp with
      | .next, hsp => obtain ⟨σ6, H6, S6, q6⟩ := hsp; exact shut S6 fun s7 J7 => ⟨_, _, J7, q6⟩
      | .brk, hsp => obtain ⟨σ6, H6, S6, q6⟩ := hsp; exact shut S6 fun s7 J7 => ⟨_, _, J7, q6⟩
      | .cont, hsp => obtain ⟨σ6, H6, S6, q6⟩ := hsp; exact shut S6 fun s7 J7 => ⟨_, _, J7, q6⟩
      | .ret u, hsp => obtain ⟨v6, σ6, H6, S6, r6, q6⟩ := hsp; exact shut S6 fun s7 J7 => ⟨_, _, _, J7, r6, q6⟩
/-- the whole statement -/
theorem ps_tryT {body : List Stmt} {h₀ : ExceptHandler} {hds : List ExceptHandler} {ls : List Cl} {pos : Pos} {tb : WX → TS} (hs : X.stack = X.env :: X.outer) (hf : X.env.frame = some X.env.locals) (hex : X.ex = []) (tk : Takes X Wout)
    (hb : ∀ (W : WX) (pn : List (Addr × Obj)) (xe : Value → Shared → Prop), Takes (X.tr pn xe) W → PassesOwn (model X.prog X.w) X.A X.env xe → PSs (X.tr pn xe) body (tb W)) (hh : ClsOk X (h₀ :: hds) ls) :
    PS X (.Try body (h₀ :: hds) [] [] pos) (fun D σ H => tb (wCl X.K Wout D ls) D σ H) := by
  constructor
  intro pins s σ H D I h
  have ok := I.ok
  have hfr : X.A.frames = some (X.env :: X.outer) := by rw [ok.frames, hs]
  have taken : Takes (X.tr (X.pn ++ pins) fun e s₁ => wpAny (model X.prog X.w) X.A (noteFrame e X.env) (fun _ s₂ => wpAny (model X.prog X.w) X.A (setFlight e none) (fun _ s₃ =>
      wpAny (model X.prog X.w) X.A (handleBy e X.env (h₀ :: hds)) (SP X pins D) X.xe s₃) X.xe s₂) X.xe s₁) (wCl X.K Wout D ls) := fun u s' xx => by
    obtain ⟨a, B, sI, pins', σ', H', cls, d, rfl, J', nb, up, sky, na, os, ag, w⟩ := xx
    have sky' : Sky B (X.env :: X.outer) a (Zc cls d) X.env.locals s'.heap := by rw [← hs]; exact sky
    exact Sky.land Zc.steady hfr hf sky' fun h3 fl3 up3 => clauses_run (s := { s' with heap := h3 }) hs hf hex tk hh (J'.ofTry ok) nb (up.trans up3) fl3 na os ag w
  refine wpAny_Try_except (wpAny_mono ((hb _ _ _ taken PassesOwn.looking).run [] s σ H D (I.toTry _) h) (fun f s1 hsp => ?_) (fun e s1 he => he))
  match f, hsp with
  | .next, hsp => obtain ⟨σ', H', J', q⟩ := hsp; exact wpAny_execs_nil ⟨σ', H', J'.ofTry ok, q⟩
  | .brk, hsp => obtain ⟨σ', H', J', q⟩ := hsp; exact ⟨σ', H', J'.ofTry ok, q⟩
  | .cont, hsp => obtain ⟨σ', H', J', q⟩ := hsp; exact ⟨σ', H', J'.ofTry ok, q⟩
  | .ret u, hsp => obtain ⟨v, σ', H', J', r, q⟩ := hsp; exact ⟨v, σ', H', J'.ofTry ok, r, q⟩
end
end DL

/-! The data layer: what a def does, told by a plain function over data; slots own their lists and dicts. -/
namespace DL
open PySem L2

/-! ### data -/
inductive D where
  | non | bl (b : Bool) | int (i : Int) | str (x : Str)
  | lst (xs : List D) | tup (xs : List D) | dct (kvs : List (Key × D)) | obj (n : Str) (fs : List (Str × D)) | ty (n : String) | cls (n : Str) | fl (xs : List D)
  /-- a caught exception: its class, its attributes -/
  | exn (n : Str) (fs : List (Str × D))
/-- the class that the module's name stands for -/
def ClAt (K : PySem.W.Frag) (n : Str) (C : Addr) : Prop := PySem.W.nsIn K mainGlobals n = some (some (.ref C))
theorem ClAt.one {K : PySem.W.Frag} {n : Str} {C C' : Addr} (h : ClAt K n C) (h' : ClAt K n C') : C = C' := by
  have e := h.symm.trans h'
  cases e
  rfl
/-- an exception's attributes: none as yet, or a dict of them -/
def XD (B : Hp) : Option Addr → List (Str × V) → Prop
  | none, fs => fs = []
  | some d, fs => B d = some (.xd fs)
theorem XD.mono {B B' : Hp} (h : ∀ a o, B a = some o → (∀ vs, o ≠ .lst vs) → (∀ kvs, o ≠ .dK kvs) → B' a = some o) : ∀ {d : Option Addr} {fs : List (Str × V)}, XD B d fs → XD B' d fs
  | none, _, q => q
  | some _, _, q => h _ _ q (fun _ z => nomatch z) (fun _ z => nomatch z)

mutual
inductive Rep (K : PySem.W.Frag) (B : Hp) : V → D → Prop
  | non : Rep K B .non .non
  | bl (b : Bool) : Rep K B (.bl b) (.bl b)
  | int (i : Int) : Rep K B (.int i) (.int i)
  | str (x : Str) : Rep K B (.str x) (.str x)
  | ty (n : String) : Rep K B (.ty n) (.ty n)
  | cls {n : Str} {C : Addr} : ClAt K n C → Rep K B (.ref C) (.cls n)
  | exn {n : Str} {a C : Addr} {d : Option Addr} {fs : List (Str × V)} {ds : List (Str × D)} : B a = some (exT a (.ref C) d) → ClAt K n C → XD B d fs → RepF K B fs ds → Rep K B (.ref a) (.exn n ds)
  | lst {a : Addr} {vs : List V} {ds : List D} : B a = some (.lst vs) → RepA K B vs ds → Rep K B (.ref a) (.lst ds)
  | fl {a : Addr} {vs : List V} {ds : List D} : SqL K B a vs → RepA K B vs ds → Rep K B (.ref a) (.fl ds)
  | tup {a : Addr} {vs : List V} {ds : List D} : SqT K B a vs → RepA K B vs ds → Rep K B (.ref a) (.tup ds)
  | dct {a : Addr} {kvs : List (Key × V)} {ds : List (Key × D)} : B a = some (.dK kvs) → RepK K B kvs ds → Rep K B (.ref a) (.dct ds)
  | obj {n : Str} {a C dx : Addr} {fs : List (Str × V)} {ds : List (Str × D)} : B a = some (.ins C dx fs) → ClAt K n C → RepF K B fs ds → Rep K B (.ref a) (.obj n ds)
inductive RepA (K : PySem.W.Frag) (B : Hp) : List V → List D → Prop
  | nil : RepA K B [] []
  | cons {v : V} {vs : List V} {d : D} {ds : List D} : Rep K B v d → RepA K B vs ds → RepA K B (v :: vs) (d :: ds)
inductive RepK (K : PySem.W.Frag) (B : Hp) : List (Key × V) → List (Key × D) → Prop
  | nil : RepK K B [] []
  | cons {k : Key} {v : V} {vs : List (Key × V)} {d : D} {ds : List (Key × D)} : Rep K B v d → RepK K B vs ds → RepK K B ((k, v) :: vs) ((k, d) :: ds)
inductive RepF (K : PySem.W.Frag) (B : Hp) : List (Str × V) → List (Str × D) → Prop
  | nil : RepF K B [] []
  | cons {k : Str} {v : V} {vs : List (Str × V)} {d : D} {ds : List (Str × D)} : Rep K B v d → RepF K B vs ds → RepF K B ((k, v) :: vs) ((k, d) :: ds)
end

theorem sqL_mono {K : PySem.W.Frag} {B B' : Hp} (e : Same B B') {a : Addr} {xs : List V} (h : SqL K B a xs) : SqL K B' a xs := by
  rcases h with (h | ⟨o, h⟩) | h
  · exact .inl (.inl (e _ _ h))
  · exact .inl (.inr ⟨o, e _ _ h⟩)
  · exact .inr h
theorem sqT_mono {K : PySem.W.Frag} {B B' : Hp} (e : Same B B') {a : Addr} {xs : List V} (h : SqT K B a xs) : SqT K B' a xs := by
  rcases h with (h | ⟨o, h⟩) | h
  · exact .inl (.inl (e _ _ h))
  · exact .inl (.inr ⟨o, e _ _ h⟩)
  · exact .inr h

section
variable {K : PySem.W.Frag} {B B' : Hp} (e : Same B B')
include e
mutual
theorem Rep.mono : ∀ {v : V} {d : D}, Rep K B v d → Rep K B' v d
  | _, _, .non => .non
  | _, _, .bl b => .bl b
  | _, _, .int i => .int i
  | _, _, .str x => .str x
  | _, _, .ty n => .ty n
  | _, _, .cls a => .cls a
  | _, _, .exn h c x a => .exn (e _ _ h) c (x.mono fun _ _ q _ _ => e _ _ q) (RepF.mono a)
  | _, _, .lst h a => .lst (e _ _ h) (RepA.mono a)
  | _, _, .fl h a => .fl (sqL_mono e h) (RepA.mono a)
  | _, _, .tup h a => .tup (sqT_mono e h) (RepA.mono a)
  | _, _, .dct h a => .dct (e _ _ h) (RepK.mono a)
  | _, _, .obj h c a => .obj (e _ _ h) c (RepF.mono a)
theorem RepA.mono : ∀ {v : List V} {d : List D}, RepA K B v d → RepA K B' v d
  | _, _, .nil => .nil
  | _, _, .cons h t => .cons (Rep.mono h) (RepA.mono t)
theorem RepK.mono : ∀ {v : List (Key × V)} {d : List (Key × D)}, RepK K B v d → RepK K B' v d
  | _, _, .nil => .nil
  | _, _, .cons h t => .cons (Rep.mono h) (RepK.mono t)
theorem RepF.mono : ∀ {v : List (Str × V)} {d : List (Str × D)}, RepF K B v d → RepF K B' v d
  | _, _, .nil => .nil
  | _, _, .cons h t => .cons (Rep.mono h) (RepF.mono t)
end
end
theorem RepA.len {K : PySem.W.Frag} {B : Hp} : ∀ {v : List V} {d : List D}, RepA K B v d → v.length = d.length
  | _, _, .nil => rfl
  | _, _, .cons h t => congrArg (· + 1) (RepA.len t)
theorem RepK.len {K : PySem.W.Frag} {B : Hp} : ∀ {v : List (Key × V)} {d : List (Key × D)}, RepK K B v d → v.length = d.length
  | _, _, .nil => rfl
  | _, _, .cons h t => congrArg (· + 1) (RepK.len t)
theorem RepA.app {K : PySem.W.Frag} {B : Hp} : ∀ {v w : List V} {d e : List D}, RepA K B v d → RepA K B w e → RepA K B (v ++ w) (d ++ e)
  | _, _, _, _, .nil, s => s
  | _, _, _, _, .cons h t, s => .cons h (RepA.app t s)
theorem RepA.get {K : PySem.W.Frag} {B : Hp} : ∀ {v : List V} {d : List D} {i : Nat} {x : D}, RepA K B v d → d[i]? = some x → ∃ u, v[i]? = some u ∧ Rep K B u x
  | _, _, _, _, .nil, e => by simp at e
  | _, _, 0, _, .cons h t, e => by simp at e; subst e; exact ⟨_, rfl, h⟩
  | _, _, i + 1, x, .cons h t, e => by
    obtain ⟨u, h1, h2⟩ := RepA.get (i := i) (x := x) t (by simpa using e)
    exact ⟨u, by simpa using h1, h2⟩
theorem RepA.getV {K : PySem.W.Frag} {B : Hp} : ∀ {v : List V} {d : List D} {i : Nat} {x : V}, RepA K B v d → v[i]? = some x → ∃ u, d[i]? = some u ∧ Rep K B x u
  | _, _, _, _, .nil, e => by simp at e
  | _, _, 0, _, .cons h t, e => by simp at e; subst e; exact ⟨_, rfl, h⟩
  | _, _, i + 1, x, .cons h t, e => by
    obtain ⟨u, h1, h2⟩ := RepA.getV (i := i) (x := x) t (by simpa using e)
    exact ⟨u, by simpa using h1, h2⟩
theorem RepA.take {K : PySem.W.Frag} {B : Hp} : ∀ {v : List V} {d : List D} (n : Nat), RepA K B v d → RepA K B (v.take n) (d.take n)
  | _, _, 0, _ => by simp; exact .nil
  | _, _, n + 1, .nil => by simp; exact .nil
  | _, _, n + 1, .cons h t => by simp; exact .cons h (RepA.take n t)
theorem RepA.drop {K : PySem.W.Frag} {B : Hp} : ∀ {v : List V} {d : List D} (n : Nat), RepA K B v d → RepA K B (v.drop n) (d.drop n)
  | _, _, 0, h => by simpa using h
  | _, _, n + 1, .nil => by simp; exact .nil
  | _, _, n + 1, .cons h t => by simpa using RepA.drop n t
theorem RepA.rev {K : PySem.W.Frag} {B : Hp} {v : List V} {d : List D} (h : RepA K B v d) : RepA K B v.reverse d.reverse := by
  induction d generalizing v with
  | nil => cases h; exact .nil
  | cons x xs ih =>
    cases h with
    | cons h t => simpa using (ih t).app (.cons h .nil)

/-! ### what a slot holds -/
/-- an own list, an own dict -/
inductive M where
  | l (ds : List D) | d (kvs : List (Key × D))
def M.toD : M → D
  | .l ds => .lst ds
  | .d kvs => .dct kvs
/-- not set; a thing that never changes; an own thing (io: the caller's; lk: locked) -/
inductive Slot where
  | u | v (d : D) | o (io lk : Bool) (m : M)
abbrev Env := List Slot
/-- what an expression gives: a thing that never changes, a new own thing, the own thing of a slot -/
inductive RV where
  | v (d : D) | m (m : M) | b (i : Nat)
/-- an exception: its class, its attributes -/
structure EX where
  cls : Str
  fs : List (Str × D)
inductive Res (α : Type) where
  | ok (a : α) (e : Env) | exc (x : EX) (e : Env) | no
def Res.bind {α β : Type} (r : Res α) (f : α → Env → Res β) : Res β := match r with
  | .ok a e => f a e
  | .exc x e => .exc x e
  | .no => .no

def MOk (K : PySem.W.Frag) (B : Hp) : M → HO → Prop
  | .l ds, o => ∃ vs, o = .lst vs ∧ RepA K B vs ds
  | .d ds, o => ∃ vs, o = .dK vs ∧ RepK K B vs ds
theorem MOk.mono {K : PySem.W.Frag} {B B' : Hp} (e : Same B B') : ∀ {m : M} {o : HO}, MOk K B m o → MOk K B' m o
  | .l _, _, ⟨vs, h, r⟩ => ⟨vs, h, r.mono e⟩
  | .d _, _, ⟨vs, h, r⟩ => ⟨vs, h, r.mono e⟩
theorem MOk.rep {K : PySem.W.Frag} {B : Hp} {a : Addr} : ∀ {m : M} {o : HO}, B a = some o → MOk K B m o → Rep K B (.ref a) m.toD
  | .l _, _, ha, ⟨vs, h, r⟩ => by subst h; exact .lst ha r
  | .d _, _, ha, ⟨vs, h, r⟩ => by subst h; exact .dct ha r

/-! ### the state -/
/-- K: the written part; F: the heap at the def's entry; B0, H0: where one began; ino: what may turn; io: the caller's own things by slot -/
structure Gm where
  K : PySem.W.Frag
  F : Hp
  B0 : Hp
  H0 : Hp
  ino : Addr → Prop
  io : Nat → Option Addr
def Gm.at (G : Gm) (B H : Hp) (o : Addr → Prop) : Gm := { G with B0 := B, H0 := H, ino := o }

def SlOk (G : Gm) (B H : Hp) (i : Nat) : Slot → Option (Option V) → Prop
  | .u, _ => True
  | .v d, ov => ∃ v, ov = some (some v) ∧ Rep G.K B v d
  | .o io lk m, ov => ∃ a o, ov = some (some (.ref a)) ∧ H a = some o ∧ MOk G.K B m o ∧ B a = none ∧ (G.H0 a = none ∨ G.ino a) ∧ (if io = true then G.io i = some a else G.F a = none)

def Owned (σ : L2.St) (e : Env) (a : Addr) : Prop := ∃ (i : Nat) (io lk : Bool) (m : M), e[i]? = some (.o io lk m) ∧ σ[i]? = some (some (.ref a))

structure Rel (G : Gm) (B H : Hp) (σ : L2.St) (e : Env) : Prop where
  len : σ.length = e.length
  b0 : Same G.B0 B
  bh : Same B H
  fd : ∀ a, H a = none → G.F a = none
  dm : ∀ a, H a = none → G.H0 a = none
  fr : ∀ a o, G.H0 a = some o → ¬ G.ino a → H a = some o
  bf : ∀ a o, G.H0 a = some o → ¬ G.ino a → G.B0 a = none → B a = none
  sl : ∀ (i : Nat) (s : Slot), e[i]? = some s → SlOk G B H i s σ[i]?
  ne : ∀ (i j : Nat) (p q p' q' : Bool) (m m' : M) (a : Addr), e[i]? = some (.o p q m) → e[j]? = some (.o p' q' m') → σ[i]? = some (some (.ref a)) → σ[j]? = some (some (.ref a)) → i = j

theorem Rel.owned {G : Gm} {B H : Hp} {σ : L2.St} {e : Env} (R : Rel G B H σ e) {a : Addr} (h : Owned σ e a) : ∃ o, H a = some o ∧ B a = none ∧ (G.H0 a = none ∨ G.ino a) := by
  obtain ⟨i, io, lk, m, h1, h2⟩ := h
  obtain ⟨a', o, e1, e2, e3, e4, e5, e6⟩ := R.sl i _ h1
  rw [h2] at e1
  cases e1
  exact ⟨o, e2, e4, e5⟩
theorem Rel.rebase {G : Gm} {B H : Hp} {σ : L2.St} {e : Env} (R : Rel G B H σ e) : Rel (G.at B H (Owned σ e)) B H σ e where
  len := R.len
  b0 := Same.refl B
  bh := R.bh
  fd := R.fd
  dm := fun _ h => h
  fr := fun _ _ h _ => h
  bf := fun _ _ _ _ h => h
  sl := fun i s hs => by
    have h := R.sl i s hs
    cases s with
    | u => trivial
    | v d => exact h
    | o io lk m =>
      obtain ⟨a, o, e1, e2, e3, e4, e5, e6⟩ := h
      exact ⟨a, o, e1, e2, e3, e4, .inr ⟨i, io, lk, m, hs, e1⟩, e6⟩
  ne := R.ne
theorem Rel.back {G : Gm} {B H B' H' : Hp} {σ σ' : L2.St} {e e' : Env} (R : Rel G B H σ e) (S : Rel (G.at B H (Owned σ e)) B' H' σ' e') : Rel G B' H' σ' e' where
  len := S.len
  b0 := R.b0.trans S.b0
  bh := S.bh
  fd := S.fd
  dm := fun a h => R.dm a (S.dm a h)
  fr := fun a o h n => S.fr a o (R.fr a o h n) fun q => by
    obtain ⟨_, _, _, q⟩ := R.owned q
    rcases q with q | q
    · rw [q] at h; cases h
    · exact n q
  bf := fun a o h n z => S.bf a o (R.fr a o h n) (fun q => by
    obtain ⟨_, _, _, q⟩ := R.owned q
    rcases q with q | q
    · rw [q] at h; cases h
    · exact n q) (R.bf a o h n z)
  sl := fun i s hs => by
    have h := S.sl i s hs
    cases s with
    | u => trivial
    | v d => exact h
    | o io lk m =>
      obtain ⟨a, o, e1, e2, e3, e4, e5, e6⟩ := h
      refine ⟨a, o, e1, e2, e3, e4, ?_, e6⟩
      rcases e5 with e5 | e5
      · by_cases n : G.ino a
        · exact .inr n
        · cases q : G.H0 a with
          | none => exact .inl rfl
          | some u =>
            have := R.fr a u q n
            rw [show H a = none from e5] at this
            cases this
      · obtain ⟨_, _, _, q⟩ := R.owned e5
        exact q
  ne := S.ne

/-- only new things, the elder ones as they were -/
structure Grow (B H B' H' : Hp) : Prop where
  eb : Same B B'
  eh : Same H H'
  bh : Same B' H'
  nb : ∀ a o, H a = some o → B a = none → B' a = none
theorem Grow.refl {B H : Hp} (h : Same B H) : Grow B H B H := ⟨Same.refl B, Same.refl H, h, fun _ _ _ z => z⟩
theorem Grow.trans {B H B1 H1 B2 H2 : Hp} (a : Grow B H B1 H1) (b : Grow B1 H1 B2 H2) : Grow B H B2 H2 :=
  ⟨a.eb.trans b.eb, a.eh.trans b.eh, b.bh, fun x o h z => b.nb x o (a.eh x o h) (a.nb x o h z)⟩
theorem Rel.grow {G : Gm} {B H B' H' : Hp} {σ : L2.St} {e : Env} (R : Rel G B H σ e) (g : Grow B H B' H') : Rel G B' H' σ e where
  len := R.len
  b0 := R.b0.trans g.eb
  bh := g.bh
  fd := fun a h => R.fd a (g.eh.free h)
  dm := fun a h => R.dm a (g.eh.free h)
  fr := fun a o h n => g.eh a o (R.fr a o h n)
  bf := fun a o h n z => g.nb a o (R.fr a o h n) (R.bf a o h n z)
  sl := fun i s hs => by
    have h := R.sl i s hs
    cases s with
    | u => trivial
    | v d =>
      obtain ⟨v, e1, e2⟩ := h
      exact ⟨v, e1, e2.mono g.eb⟩
    | o io lk m =>
      obtain ⟨a, o, e1, e2, e3, e4, e5, e6⟩ := h
      exact ⟨a, o, e1, g.eh a o e2, e3.mono g.eb, g.nb a o e2 e4, e5, e6⟩
  ne := R.ne
/-- a new thing on the heap alone (own), or frozen at once -/
theorem Grow.own {B H : Hp} (h : Same B H) {p : Addr} (hp : H p = none) {o : HO} : Grow B H B (upd H p o) where
  eb := Same.refl B
  eh := fun a u e => by rw [upd_ne (ne_of_none e hp)]; exact e
  bh := fun a u e => by rw [upd_ne (ne_of_none (h a u e) hp)]; exact h a u e
  nb := fun _ _ _ z => z
theorem Grow.new {B H : Hp} (h : Same B H) {p : Addr} (hp : H p = none) {o : HO} : Grow B H (upd B p o) (upd H p o) where
  eb := fun a u e => by rw [upd_ne (ne_of_none (h a u e) hp)]; exact e
  eh := fun a u e => by rw [upd_ne (ne_of_none e hp)]; exact e
  bh := fun a u e => by
    by_cases q : a = p
    · subst q
      rw [upd_same] at e ⊢
      exact e
    · rw [upd_ne q] at e ⊢
      exact h a u e
  nb := fun a o e z => by rw [upd_ne (ne_of_none e hp)]; exact z

/-! ### what an expression gives -/
def RepR (G : Gm) (B H : Hp) (σ : L2.St) (e : Env) : RV → V → Prop
  | .v d, v => Rep G.K B v d
  | .m m, v => ∃ a o, v = .ref a ∧ H a = some o ∧ MOk G.K B m o ∧ B a = none ∧ G.F a = none ∧ G.H0 a = none ∧ ¬ Owned σ e a
  | .b i, v => σ[i]? = some (some v)
def RepX (K : PySem.W.Frag) (B : Hp) (x : EX) (cls : Value) (d : Option Addr) : Prop :=
  ∃ (C : Addr) (vs : List (Str × V)), cls = .ref C ∧ ClAt K x.cls C ∧ XD B d vs ∧ RepF K B vs x.fs

/-- how what is told stands for what is there -/
structure Vw (α β : Type) where
  rp : Gm → Hp → Hp → L2.St → Env → α → β → Prop
/-- what is wanted behind -/
def post {α β : Type} (V : Vw α β) (W : WX) (G : Gm) (B H : Hp) (σ : L2.St) (e : Env) (Q : β → Hp → Prop) : Res α → Prop
  | .ok x e' => ∀ v H' B', Rel (G.at B H (Owned σ e)) B' H' σ e' → V.rp (G.at B H (Owned σ e)) B' H' σ e' x v → Q v H'
  | .exc x e' => ∀ cls d H' B', Rel (G.at B H (Owned σ e)) B' H' σ e' → RepX G.K B' x cls d → W cls d σ H'
  | .no => False
def rd {α β : Type} (V : Vw α β) (W : WX) (K : PySem.W.Frag) (f : Env → Res α) : L2.St → Hp → (β → Hp → Prop) → Prop :=
  fun σ H Q => ∃ G B e, G.K = K ∧ Rel G B H σ e ∧ post V W G B H σ e Q (f e)
def vR : Vw RV V := ⟨RepR⟩
def vB : Vw Bool Bool := ⟨fun _ _ _ _ _ b c => c = b⟩
def vD : Vw D V := ⟨fun G B _ _ _ d v => Rep G.K B v d⟩
def vL : Vw (List RV) (List V) := ⟨fun G B H σ e xs vs => Paired (fun v x => RepR G B H σ e x v) vs xs⟩
def vDs : Vw (List D) (List V) := ⟨fun G B _ _ _ ds vs => RepA G.K B vs ds⟩
abbrev rdE := @rd RV V vR
abbrev rdT := @rd Bool Bool vB
abbrev rdA := @rd (List RV) (List V) vL
abbrev rdD := @rd (List D) (List V) vDs
def DE (X : Cx) (W : WX) (ex : Expr) (f : Env → Res RV) : Prop := PE X ex (rdE W X.K f)
def DT (X : Cx) (W : WX) (ex : Expr) (f : Env → Res Bool) : Prop := PT X ex (rdT W X.K f)
def DA (X : Cx) (W : WX) (es : List Expr) (f : Env → Res (List RV)) : Prop := PA X es (rdA W X.K f)
def DD (X : Cx) (W : WX) (es : List Expr) (f : Env → Res (List D)) : Prop := PA X es (rdD W X.K f)

theorem PE.weak {X : Cx} {e : Expr} {t t' : TE} (h : PE X e t) (w : ∀ σ H Q, t' σ H Q → t σ H Q) : PE X e t' := ⟨fun pins s σ H Q I q => h.run pins s σ H Q I (w σ H Q q)⟩
theorem PA.weak {X : Cx} {e : List Expr} {t t' : TA} (h : PA X e t) (w : ∀ σ H Q, t' σ H Q → t σ H Q) : PA X e t' := ⟨fun pos pins s σ H Q I q => h.run pos pins s σ H Q I (w σ H Q q)⟩
theorem PT.weak {X : Cx} {e : Expr} {t t' : TT} (h : PT X e t) (w : ∀ σ H Q, t' σ H Q → t σ H Q) : PT X e t' := ⟨fun pins s σ H Q I q => h.run pins s σ H Q I (w σ H Q q)⟩
theorem PS.weak {X : Cx} {e : Stmt} {t t' : TS} (h : PS X e t) (w : ∀ D σ H, t' D σ H → t D σ H) : PS X e t' := ⟨fun pins s σ H Q I q => h.run pins s σ H Q I (w Q σ H q)⟩
theorem PSs.weak {X : Cx} {e : List Stmt} {t t' : TS} (h : PSs X e t) (w : ∀ D σ H, t' D σ H → t D σ H) : PSs X e t' := ⟨fun pins s σ H Q I q => h.run pins s σ H Q I (w Q σ H q)⟩

/-- from a later state: a value stays what it was -/
theorem RepR.keep {G : Gm} {B H B' H' : Hp} {σ : L2.St} {e e' : Env} {x : RV} {v : V} (R : Rel G B H σ e) (h : RepR G B H σ e x v) (S : Rel (G.at B H (Owned σ e)) B' H' σ e') : RepR G B' H' σ e' x v := by
  cases x with
  | v d => exact Rep.mono S.b0 h
  | b i => exact h
  | m m =>
    obtain ⟨a, o, e1, e2, e3, e4, e5, e6, e7⟩ := h
    refine ⟨a, o, e1, S.fr a o e2 e7, e3.mono S.b0, S.bf a o e2 e7 e4, e5, e6, fun q => ?_⟩
    obtain ⟨_, _, _, q⟩ := S.owned q
    rcases q with q | q
    · rw [show H a = none from q] at e2; cases e2
    · exact e7 q
/-- seen from where one began -/
theorem RepR.back {G : Gm} {B H B' H' : Hp} {σ σ' : L2.St} {e e' : Env} {x : RV} {v : V} (R : Rel G B H σ e) (h : RepR (G.at B H (Owned σ e)) B' H' σ' e' x v) : RepR G B' H' σ' e' x v := by
  cases x with
  | v d => exact h
  | b i => exact h
  | m m =>
    obtain ⟨a, o, e1, e2, e3, e4, e5, e6, e7⟩ := h
    exact ⟨a, o, e1, e2, e3, e4, e5, R.dm a e6, e7⟩

/-- one step, then the rest -/
theorem post.bind {α β γ δ : Type} {V : Vw α β} {U : Vw γ δ} {W : WX} {G : Gm} {B H : Hp} {σ : L2.St} {e : Env} {Q : δ → Hp → Prop} {Q1 : β → Hp → Prop} {r : Res α} {k : α → Env → Res γ}
    (h : post U W G B H σ e Q (r.bind k))
    (w : ∀ x e1 v H1 B1, Rel (G.at B H (Owned σ e)) B1 H1 σ e1 → V.rp (G.at B H (Owned σ e)) B1 H1 σ e1 x v → post U W G B H σ e Q (k x e1) → Q1 v H1) : post V W G B H σ e Q1 r := by
  cases r with
  | no => exact h
  | exc x e1 => exact h
  | ok x e1 => exact fun v H1 B1 R1 P1 => w x e1 v H1 B1 R1 P1 h
/-- the same want, from a later state -/
theorem post.shift {α β : Type} {V : Vw α β} {W : WX} {G : Gm} {B H B1 H1 : Hp} {σ : L2.St} {e e1 : Env} {Q : β → Hp → Prop} {r : Res α} (R1 : Rel (G.at B H (Owned σ e)) B1 H1 σ e1)
    (bk : ∀ (B2 H2 : Hp) (e2 : Env) x v, V.rp ((G.at B H (Owned σ e)).at B1 H1 (Owned σ e1)) B2 H2 σ e2 x v → V.rp (G.at B H (Owned σ e)) B2 H2 σ e2 x v)
    (h : post V W G B H σ e Q r) : post V W (G.at B H (Owned σ e)) B1 H1 σ e1 Q r := by
  cases r with
  | no => exact h
  | exc x e2 => exact fun cls d H2 B2 R2 hx => h cls d H2 B2 (R1.back R2) hx
  | ok x e2 => exact fun v H2 B2 R2 P2 => h v H2 B2 (R1.back R2) (bk B2 H2 e2 x v P2)
/-- the next step from a later state, the want as it was -/
theorem post.bindS {α β γ δ : Type} {V : Vw α β} {U : Vw γ δ} {W : WX} {G : Gm} {B H B1 H1 : Hp} {σ : L2.St} {e e1 : Env} {Q : δ → Hp → Prop} {Q1 : β → Hp → Prop} {r : Res α} {k : α → Env → Res γ} (R1 : Rel (G.at B H (Owned σ e)) B1 H1 σ e1)
    (h : post U W G B H σ e Q (r.bind k))
    (w : ∀ x e2 v H2 B2, Rel (G.at B H (Owned σ e)) B2 H2 σ e2 → Rel ((G.at B H (Owned σ e)).at B1 H1 (Owned σ e1)) B2 H2 σ e2 → V.rp ((G.at B H (Owned σ e)).at B1 H1 (Owned σ e1)) B2 H2 σ e2 x v → post U W G B H σ e Q (k x e2) → Q1 v H2) :
    post V W (G.at B H (Owned σ e)) B1 H1 σ e1 Q1 r := by
  cases r with
  | no => exact h
  | exc x e2 => exact fun cls d H2 B2 R2 hx => h cls d H2 B2 (R1.back R2) hx
  | ok x e2 => exact fun v H2 B2 R2 P2 => w x e2 v H2 B2 (R1.back R2) R2 P2 h
end DL

namespace DL
open PySem L2

/-! ### looking at a value -/
def peek (e : Env) : RV → Option D
  | .v d => some d
  | .m m => some m.toD
  | .b i => match e[i]? with
    | some (.v d) => some d
    | some (.o _ _ m) => some m.toD
    | _ => none
/-- the thing itself may be an own one, what is in it never changes -/
def RepT (K : PySem.W.Frag) (B H : Hp) (v : V) (d : D) : Prop := Rep K B v d ∨ ∃ a o m, v = .ref a ∧ H a = some o ∧ MOk K B m o ∧ d = m.toD
theorem RepR.top {G : Gm} {B H : Hp} {σ : L2.St} {e : Env} {x : RV} {v : V} {d : D} (R : Rel G B H σ e) (h : RepR G B H σ e x v) (p : peek e x = some d) : RepT G.K B H v d := by
  cases x with
  | v d' =>
    cases p
    exact .inl h
  | m m =>
    cases p
    obtain ⟨a, o, e1, e2, e3, _⟩ := h
    exact .inr ⟨a, o, m, e1, e2, e3, rfl⟩
  | b i =>
    have h : σ[i]? = some (some v) := h
    have p : (match e[i]? with
      | some (.v d) => some d
      | some (.o _ _ m) => some m.toD
      | _ => none) = some d := p
    cases he : e[i]? with
    | none => rw [he] at p; cases p
    | some s =>
      rw [he] at p
      cases s with
      | u => cases p
      | v d' =>
        cases p
        obtain ⟨v', e1, e2⟩ := R.sl i _ he
        rw [h] at e1
        cases e1
        exact .inl e2
      | o io lk m =>
        cases p
        obtain ⟨a, o, e1, e2, e3, _⟩ := R.sl i _ he
        rw [h] at e1
        cases e1
        exact .inr ⟨a, o, m, rfl, e2, e3, rfl⟩
section
variable {K : PySem.W.Frag} {B H : Hp} {v : V}
theorem RepT.non (h : RepT K B H v .non) : v = .non := by
  rcases h with h | ⟨_, _, m, _, _, _, z⟩
  · cases h; rfl
  · cases m <;> cases z
theorem RepT.bl {b : Bool} (h : RepT K B H v (.bl b)) : v = .bl b := by
  rcases h with h | ⟨_, _, m, _, _, _, z⟩
  · cases h; rfl
  · cases m <;> cases z
theorem RepT.int {i : Int} (h : RepT K B H v (.int i)) : v = .int i := by
  rcases h with h | ⟨_, _, m, _, _, _, z⟩
  · cases h; rfl
  · cases m <;> cases z
theorem RepT.str {x : Str} (h : RepT K B H v (.str x)) : v = .str x := by
  rcases h with h | ⟨_, _, m, _, _, _, z⟩
  · cases h; rfl
  · cases m <;> cases z
theorem RepT.ty {n : String} (h : RepT K B H v (.ty n)) : v = .ty n := by
  rcases h with h | ⟨_, _, m, _, _, _, z⟩
  · cases h; rfl
  · cases m <;> cases z
theorem RepT.lst {ds : List D} (e : Same B H) (h : RepT K B H v (.lst ds)) : ∃ a vs, v = .ref a ∧ H a = some (.lst vs) ∧ RepA K B vs ds := by
  rcases h with h | ⟨a, o, m, e1, e2, e3, z⟩
  · cases h with
    | lst h r => exact ⟨_, _, rfl, e _ _ h, r⟩
  · cases m with
    | l ds' =>
      cases z
      obtain ⟨vs, rfl, r⟩ := e3
      exact ⟨a, vs, e1, e2, r⟩
    | d _ => cases z
theorem RepT.fl {ds : List D} (e : Same B H) (h : RepT K B H v (.fl ds)) : ∃ a vs, v = .ref a ∧ SqL K H a vs ∧ RepA K B vs ds := by
  rcases h with h | ⟨a, o, m, e1, e2, e3, z⟩
  · cases h with
    | fl h r => exact ⟨_, _, rfl, sqL_mono e h, r⟩
  · cases m <;> cases z
theorem RepT.tup {ds : List D} (e : Same B H) (h : RepT K B H v (.tup ds)) : ∃ a vs, v = .ref a ∧ SqT K H a vs ∧ RepA K B vs ds := by
  rcases h with h | ⟨a, o, m, e1, e2, e3, z⟩
  · cases h with
    | tup h r => exact ⟨_, _, rfl, sqT_mono e h, r⟩
  · cases m <;> cases z
theorem RepT.dct {ds : List (Key × D)} (e : Same B H) (h : RepT K B H v (.dct ds)) : ∃ a vs, v = .ref a ∧ H a = some (.dK vs) ∧ RepK K B vs ds := by
  rcases h with h | ⟨a, o, m, e1, e2, e3, z⟩
  · cases h with
    | dct h r => exact ⟨_, _, rfl, e _ _ h, r⟩
  · cases m with
    | l ds' => cases z
    | d _ =>
      cases z
      obtain ⟨vs, rfl, r⟩ := e3
      exact ⟨a, vs, e1, e2, r⟩
theorem RepT.obj {n : Str} {ds : List (Str × D)} (e : Same B H) (h : RepT K B H v (.obj n ds)) : ∃ a C dx fs, v = .ref a ∧ ClAt K n C ∧ H a = some (.ins C dx fs) ∧ RepF K B fs ds := by
  rcases h with h | ⟨a, o, m, e1, e2, e3, z⟩
  · cases h with
    | obj h c r => exact ⟨_, _, _, _, rfl, c, e _ _ h, r⟩
  · cases m <;> cases z
theorem RepT.exn {n : Str} {ds : List (Str × D)} (e : Same B H) (h : RepT K B H v (.exn n ds)) : ∃ a C d fs, v = .ref a ∧ ClAt K n C ∧ H a = some (exT a (.ref C) d) ∧ XD H d fs ∧ RepF K B fs ds := by
  rcases h with h | ⟨a, o, m, e1, e2, e3, z⟩
  · cases h with
    | exn h c x r => exact ⟨_, _, _, _, rfl, c, e _ _ h, x.mono fun a o q _ _ => e a o q, r⟩
  · cases m <;> cases z
theorem RepT.cls {n : Str} (e : Same B H) (h : RepT K B H v (.cls n)) : ∃ C, v = .ref C ∧ ClAt K n C := by
  rcases h with h | ⟨a, o, m, e1, e2, e3, z⟩
  · cases h with
    | cls c => exact ⟨_, rfl, c⟩
  · cases m <;> cases z
theorem RepT.rep (e : Same B H) {d : D} (h : RepT K B H v d) : Rep K H v d := by
  rcases h with h | ⟨a, o, m, e1, e2, e3, z⟩
  · exact h.mono e
  · subst e1 z
    exact MOk.rep e2 (e3.mono e)
end

/-! ### keeping a value: an own thing that nobody has but the value is never changed from now on -/
def toD (e : Env) : RV → Option (D × Env)
  | .v d => some (d, e)
  | .m m => some (m.toD, e)
  | .b i => match e[i]? with
    | some (.v d) => some (d, e)
    | some (.o false false m) => some (m.toD, e.set i (.v m.toD))
    | _ => none
theorem owned_set {σ : L2.St} {e : Env} {i : Nat} {d : D} {a : Addr} (h : Owned σ (e.set i (.v d)) a) : Owned σ e a := by
  obtain ⟨j, io, lk, m, h1, h2⟩ := h
  by_cases q : i = j
  · subst q
    by_cases l : i < e.length
    · rw [List.getElem?_set_self l] at h1; cases h1
    · rw [List.set_eq_of_length_le (by omega)] at h1
      exact ⟨i, io, lk, m, h1, h2⟩
  · rw [List.getElem?_set_ne q] at h1
    exact ⟨j, io, lk, m, h1, h2⟩
/-- a place becomes one of those that never change -/
theorem same_upd {B H : Hp} {a : Addr} {o : HO} (h : Same B H) (e : H a = some o) : Same (upd B a o) H := fun b u q => by
  by_cases z : b = a
  · subst z; rw [upd_same] at q; rw [e]; exact q
  · rw [upd_ne z] at q; exact h b u q
theorem same_updB {B : Hp} {a : Addr} {o : HO} (e : B a = none) : Same B (upd B a o) := fun b u q => by
  rw [upd_ne (ne_of_none q e)]; exact q
theorem Rel.frz {G : Gm} {B H : Hp} {σ : L2.St} {e e' : Env} {x : RV} {v : V} {d : D} (R : Rel G B H σ e) (h : RepR G B H σ e x v) (p : toD e x = some (d, e')) : ∃ B', Rel G B' H σ e' ∧ Same B B' ∧ Rep G.K B' v d := by
  cases x with
  | v d' =>
    cases p
    exact ⟨B, R, Same.refl B, h⟩
  | m m =>
    cases p
    obtain ⟨a, o, e1, e2, e3, e4, e5, e6, e7⟩ := h
    subst e1
    have s1 : Same B (upd B a o) := same_updB e4
    refine ⟨upd B a o, ⟨R.len, R.b0.trans s1, same_upd R.bh e2, R.fd, R.dm, R.fr, fun b u q n z => ?_, fun i s hs => ?_, R.ne⟩, s1, MOk.rep upd_same (e3.mono s1)⟩
    · rw [upd_ne (ne_of_none q e6)]
      exact R.bf b u q n z
    · have w := R.sl i s hs
      cases s with
      | u => trivial
      | v d =>
        obtain ⟨v, q1, q2⟩ := w
        exact ⟨v, q1, q2.mono s1⟩
      | o io lk m' =>
        obtain ⟨b, u, q1, q2, q3, q4, q5, q6⟩ := w
        refine ⟨b, u, q1, q2, q3.mono s1, ?_, q5, q6⟩
        have nb : b ≠ a := fun z => e7 (z ▸ ⟨i, io, lk, m', hs, q1⟩)
        rw [upd_ne nb]
        exact q4
  | b i =>
    have h : σ[i]? = some (some v) := h
    have p : (match e[i]? with
      | some (.v d) => some (d, e)
      | some (.o false false m) => some (m.toD, e.set i (.v m.toD))
      | _ => none) = some (d, e') := p
    cases he : e[i]? with
    | none => rw [he] at p; cases p
    | some s =>
    rw [he] at p
    cases s with
    | u => cases p
    | v d' =>
      cases p
      obtain ⟨v', e1, e2⟩ := R.sl i _ he
      rw [h] at e1
      cases e1
      exact ⟨B, R, Same.refl B, e2⟩
    | o io lk m =>
      cases io with
      | true => cases p
      | false =>
      cases lk with
      | true => cases p
      | false =>
      cases p
      obtain ⟨a, o, e1, e2, e3, e4, e5, e6⟩ := R.sl i _ he
      rw [h] at e1
      cases e1
      have s1 : Same B (upd B a o) := same_updB e4
      refine ⟨upd B a o, ⟨by rw [List.length_set]; exact R.len, R.b0.trans s1, same_upd R.bh e2, R.fd, R.dm, R.fr, fun b u q n z => ?_, fun j s hs => ?_, fun j k p q p' q' m1 m2 b h1 h2 g1 g2 => ?_⟩, s1, MOk.rep upd_same (e3.mono s1)⟩
      · have nb : b ≠ a := fun z => by
          subst z
          rcases e5 with e5 | e5
          · rw [e5] at q; cases q
          · exact n e5
        rw [upd_ne nb]
        exact R.bf b u q n z
      · by_cases w : i = j
        · subst w
          by_cases l : i < e.length
          · rw [List.getElem?_set_self l] at hs
            cases hs
            exact ⟨_, h, MOk.rep upd_same (e3.mono s1)⟩
          · rw [List.getElem?_eq_none_iff.mpr (by omega)] at he
            cases he
        · rw [List.getElem?_set_ne w] at hs
          have w2 := R.sl j s hs
          cases s with
          | u => trivial
          | v d =>
            obtain ⟨v, q1, q2⟩ := w2
            exact ⟨v, q1, q2.mono s1⟩
          | o io lk m' =>
            obtain ⟨b, u, q1, q2, q3, q4, q5, q6⟩ := w2
            refine ⟨b, u, q1, q2, q3.mono s1, ?_, q5, q6⟩
            have nb : b ≠ a := fun z => by
              subst z
              exact w (R.ne i j _ _ _ _ _ _ b he hs h q1)
            rw [upd_ne nb]
            exact q4
      · have f1 : ∀ (j : Nat) (p q : Bool) (m1 : M), (e.set i (Slot.v m.toD))[j]? = some (.o p q m1) → e[j]? = some (.o p q m1) := fun j p q m1 hh => by
          by_cases w : i = j
          · subst w
            by_cases l : i < e.length
            · rw [List.getElem?_set_self l] at hh; cases hh
            · rw [List.set_eq_of_length_le (by omega)] at hh; exact hh
          · rw [List.getElem?_set_ne w] at hh; exact hh
        exact R.ne j k p q p' q' m1 m2 b (f1 _ _ _ _ h1) (f1 _ _ _ _ h2) g1 g2

/-! ### what a rule by values yields -/
def OutOk (K : PySem.W.Frag) (H B' H' : Hp) : RV → V → Prop
  | .v d, v => Rep K B' v d
  | .m m, v => ∃ a o, v = .ref a ∧ H a = none ∧ H' a = some o ∧ MOk K B' m o ∧ B' a = none
  | .b _, _ => False
theorem OutOk.rep {G : Gm} {B H B' H' : Hp} {σ : L2.St} {e : Env} {x : RV} {v : V} (R : Rel G B H σ e) (h : OutOk G.K H B' H' x v) : RepR G B' H' σ e x v := by
  cases x with
  | v d => exact h
  | b i => exact h.elim
  | m m =>
    obtain ⟨a, o, e1, e2, e3, e4, e5⟩ := h
    refine ⟨a, o, e1, e3, e4, e5, R.fd a e2, R.dm a e2, fun q => ?_⟩
    obtain ⟨_, q, _⟩ := R.owned q
    rw [e2] at q; cases q
def Pure1 (K : PySem.W.Frag) (r : V → Hp → VK → Prop) (g : D → Option RV) : Prop := ∀ (B H : Hp) (v : V) (d : D) (out : RV) (Q : VK), Same B H → RepT K B H v d → g d = some out →
  (∀ v' B' H', Grow B H B' H' → OutOk K H B' H' out v' → Q v' H') → r v H Q
def Pure2 (K : PySem.W.Frag) (r : V → V → Hp → VK → Prop) (g : D → D → Option RV) : Prop := ∀ (B H : Hp) (v w : V) (d c : D) (out : RV) (Q : VK), Same B H → RepT K B H v d → RepT K B H w c → g d c = some out →
  (∀ v' B' H', Grow B H B' H' → OutOk K H B' H' out v' → Q v' H') → r v w H Q
def PureN (K : PySem.W.Frag) (r : List V → Hp → VK → Prop) (g : List D → Option RV) : Prop := ∀ (B H : Hp) (vs : List V) (ds : List D) (out : RV) (Q : VK), Same B H → Paired (RepT K B H) vs ds → g ds = some out →
  (∀ v' B' H', Grow B H B' H' → OutOk K H B' H' out v' → Q v' H') → r vs H Q

/-! ### expressions -/
def eC (d : D) : Env → Res RV := fun e => .ok (.v d) e
def eVar (i : Nat) : Env → Res RV := fun e => match e[i]? with
  | some (.v d) => .ok (.v d) e
  | some (.o _ _ _) => .ok (.b i) e
  | _ => .no
def giv (e : Env) : Option RV → Res RV
  | some x => .ok x e
  | none => .no
def eUn (g : D → Option RV) (fa : Env → Res RV) : Env → Res RV := fun e => (fa e).bind fun x e1 => giv e1 ((peek e1 x).bind g)
def eBin (g : D → D → Option RV) (fa fb : Env → Res RV) : Env → Res RV := fun e => (fa e).bind fun x e1 => (fb e1).bind fun y e2 => giv e2 ((peek e2 x).bind fun dx => (peek e2 y).bind fun dy => g dx dy)

def truth : D → Option Bool
  | .non => some false
  | .bl b => some b
  | .int i => some (i != 0)
  | .str x => if x.length ≤ sizeLine then some ((x.length : Int) != 0) else none
  | .lst xs => some (!xs.isEmpty)
  | .tup xs => some (!xs.isEmpty)
  | _ => none
/-- the truth of a value -/
def eT (f : Env → Res RV) : Env → Res Bool := fun e => (f e).bind fun x e1 => match (peek e1 x).bind truth with
  | some b => .ok b e1
  | none => .no
/-- a value that is a bool -/
def eB (f : Env → Res RV) : Env → Res Bool := fun e => (f e).bind fun x e1 => match x with
  | .v (.bl b) => .ok b e1
  | _ => .no
def tNotE (t : Env → Res Bool) : Env → Res Bool := fun e => (t e).bind fun b e1 => .ok (!b) e1
def tAndE (t u : Env → Res Bool) : Env → Res Bool := fun e => (t e).bind fun b e1 => if b = true then u e1 else .ok false e1
def tOrE (t u : Env → Res Bool) : Env → Res Bool := fun e => (t e).bind fun b e1 => if b = true then .ok true e1 else u e1
def eIf {α : Type} (t : Env → Res Bool) (a b : Env → Res α) : Env → Res α := fun e => (t e).bind fun c e1 => if c = true then a e1 else b e1
def eNot (f : Env → Res RV) : Env → Res RV := fun e => (f e).bind fun x e1 => match (peek e1 x).bind truth with
  | some b => .ok (.v (.bl (!b))) e1
  | none => .no
def eAnd (f g : Env → Res RV) : Env → Res RV := fun e => (f e).bind fun x e1 => match (peek e1 x).bind truth with
  | some b => if b = true then g e1 else .ok x e1
  | none => .no
def eOr (f g : Env → Res RV) : Env → Res RV := fun e => (f e).bind fun x e1 => match (peek e1 x).bind truth with
  | some b => if b = true then .ok x e1 else g e1
  | none => .no
def eChain (g g' : D → D → Option RV) (fa fb fc : Env → Res RV) : Env → Res RV := fun e => (fa e).bind fun x e1 => (fb e1).bind fun y e2 =>
  match ((peek e2 x).bind fun dx => (peek e2 y).bind fun dy => g dx dy) with
  | some (.v (.bl b)) => if b = true then (fc e2).bind fun z e3 => giv e3 ((peek e3 y).bind fun dy => (peek e3 z).bind fun dz => g' dy dz) else .ok (.v (.bl false)) e2
  | _ => .no

theorem RepT.tru {K : PySem.W.Frag} {B H : Hp} {v : V} {d : D} {b : Bool} (e : Same B H) (h : RepT K B H v d) (t : truth d = some b) : TruV K v H b := by
  cases d with
  | non => cases t; rw [h.non]; rfl
  | bl c => cases t; rw [h.bl]; rfl
  | int i => cases t; rw [h.int]; rfl
  | str x =>
    rw [h.str]
    have t : (if x.length ≤ sizeLine then some ((x.length : Int) != 0) else none) = some b := t
    by_cases z : x.length ≤ sizeLine
    · rw [if_pos z] at t
      cases t
      exact ⟨z, rfl⟩
    · rw [if_neg z] at t; cases t
  | lst xs =>
    obtain ⟨a, vs, rfl, h1, h2⟩ := h.lst e
    have t : some (!xs.isEmpty) = some b := t
    cases t
    have l : vs.isEmpty = xs.isEmpty := by
      cases h2 <;> rfl
    rw [← l]
    exact .inl ⟨vs, SqL.of h1, rfl⟩
  | tup xs =>
    obtain ⟨a, vs, rfl, h1, h2⟩ := h.tup e
    have t : some (!xs.isEmpty) = some b := t
    cases t
    have l : vs.isEmpty = xs.isEmpty := by
      cases h2 <;> rfl
    rw [← l]
    exact .inr (.inl ⟨vs, h1, rfl⟩)
  | dct _ => cases t
  | obj _ _ => cases t
  | ty _ => cases t
  | cls _ => cases t
  | exn _ _ => cases t
  | fl _ => cases t

section
variable {X : Cx} {W : WX}
theorem bkR {G : Gm} {B H B1 H1 : Hp} {σ : L2.St} {e e1 : Env} (R1 : Rel (G.at B H (Owned σ e)) B1 H1 σ e1) (B2 H2 : Hp) (e2 : Env) (x : RV) (v : V) (h : vR.rp ((G.at B H (Owned σ e)).at B1 H1 (Owned σ e1)) B2 H2 σ e2 x v) : vR.rp (G.at B H (Owned σ e)) B2 H2 σ e2 x v := RepR.back R1 h
theorem de_c {ex : Expr} {v : V} {d : D} (h : PE X ex (tC v)) (r : ∀ B, Rep X.K B v d) : DE X W ex (eC d) := PE.weak h fun σ H Q ⟨G, B, e, hK, R, q⟩ => by
  exact q v H B R.rebase (show Rep G.K B v d from hK ▸ r B)
theorem de_int {i j pos} : DE X W (.Constant (.int i) j pos) (eC (.int i)) := de_c pe_int fun _ => .int i
theorem de_str {i j pos} : DE X W (.Constant (.str i) j pos) (eC (.str i)) := de_c pe_str fun _ => .str i
theorem de_bl {i j pos} : DE X W (.Constant (.bool i) j pos) (eC (.bl i)) := de_c pe_bl fun _ => .bl i
theorem de_non {j pos} : DE X W (.Constant .none j pos) (eC .non) := de_c pe_non fun _ => .non
theorem de_var {ex : Expr} {i : Nat} (h : PE X ex (tVar i)) : DE X W ex (eVar i) := PE.weak h fun σ H Q ⟨G, B, e, hK, R, q⟩ => by
  have q : post vR W G B H σ e Q (match e[i]? with
    | some (.v d) => .ok (.v d) e
    | some (.o _ _ _) => .ok (.b i) e
    | _ => .no) := q
  cases he : e[i]? with
  | none => rw [he] at q; exact q.elim
  | some s =>
    rw [he] at q
    cases s with
    | u => exact q.elim
    | v d =>
      obtain ⟨v, e1, e2⟩ := R.sl i _ he
      exact ⟨v, e1, q v H B R.rebase e2⟩
    | o io lk m =>
      obtain ⟨a, o, e1, _⟩ := R.sl i _ he
      exact ⟨_, e1, q _ H B R.rebase e1⟩
/-- what a rule by values gives is handed on -/
theorem giv_post {G : Gm} {B H B1 H1 : Hp} {σ : L2.St} {e e1 : Env} {Q : VK} {o : Option RV} (R1 : Rel (G.at B H (Owned σ e)) B1 H1 σ e1) (q : post vR W G B H σ e Q (giv e1 o)) :
    ∃ out, o = some out ∧ ∀ v' B' H', Grow B1 H1 B' H' → OutOk G.K H1 B' H' out v' → Q v' H' := by
  cases o with
  | none => exact q.elim
  | some out => exact ⟨out, rfl, fun v' B' H' gr ok => q v' H' B' (R1.grow gr) (OutOk.rep R1 ok)⟩
theorem bind2 {α β γ : Type} {x : Option α} {y : Option β} {g : α → β → Option γ} {z : γ} (h : (x.bind fun a => y.bind fun b => g a b) = some z) : ∃ a b, x = some a ∧ y = some b ∧ g a b = some z := by
  cases x with
  | none => cases h
  | some a =>
    cases y with
    | none => cases h
    | some b => exact ⟨a, b, rfl, rfl, h⟩
theorem bind1 {α γ : Type} {x : Option α} {g : α → Option γ} {z : γ} (h : x.bind g = some z) : ∃ a, x = some a ∧ g a = some z := by
  cases x with
  | none => cases h
  | some a => exact ⟨a, rfl, h⟩
/-- one operand -/
theorem rd1 {fa : Env → Res RV} {g : D → Option RV} {K : PySem.W.Frag} {r : V → Hp → VK → Prop} (hp : Pure1 K r g) (σ : L2.St) (H : Hp) (Q : VK) (h : rdE W K (eUn g fa) σ H Q) : rdE W K fa σ H fun x H1 => r x H1 Q := by
  obtain ⟨G, B, e, hK, R, q⟩ := h
  subst hK
  refine ⟨G, B, e, rfl, R, post.bind q fun x e1 v H1 B1 R1 P1 q => ?_⟩
  obtain ⟨out, ho, q⟩ := giv_post R1 q
  obtain ⟨d, h1, h2⟩ := bind1 ho
  have t1 := RepR.top R1 P1 h1
  exact hp B1 H1 v d out Q R1.bh t1 h2 q
theorem rd2 {fa fb : Env → Res RV} {g : D → D → Option RV} {K : PySem.W.Frag} {r : V → V → Hp → VK → Prop} (hp : Pure2 K r g) (σ : L2.St) (H : Hp) (Q : VK) (h : rdE W K (eBin g fa fb) σ H Q) :
    rdE W K fa σ H fun x H1 => rdE W K fb σ H1 fun y H2 => r x y H2 Q := by
  obtain ⟨G, B, e, hK, R, q⟩ := h
  subst hK
  refine ⟨G, B, e, rfl, R, post.bind q fun x e1 v H1 B1 R1 P1 q => ?_⟩
  refine ⟨G.at B H (Owned σ e), B1, e1, rfl, R1, post.bind (q.shift R1 (bkR R1)) fun y e2 w H2 B2 R2 P2 q => ?_⟩
  obtain ⟨out, ho, q⟩ := giv_post R2 q
  obtain ⟨d, c, h1, h2, h3⟩ := bind2 ho
  have R3 := R1.back R2
  have P3 := RepR.keep R1 P1 R2
  have P4 := RepR.back R1 P2
  have t1 := RepR.top R3 P3 h1
  have t2 := RepR.top R3 P4 h2
  exact hp B2 H2 v w d c out Q R3.bh t1 t2 h3 q
theorem de_op {a b : Expr} {op : Operator} {pos : Pos} {r : R2} {fa fb : Env → Res RV} {g : D → D → Option RV} (ho : OpR X (binaryOp op) r) (hp : Pure2 X.K r g) (ha : DE X W a fa) (hb : DE X W b fb) : DE X W (.BinOp a op b pos) (eBin g fa fb) :=
  PE.weak (pe_op ho ha hb) fun σ H Q h => rd2 hp σ H Q h
theorem de_cmp {a b : Expr} {op : CmpOp} {pos : Pos} {r : R2} {fa fb : Env → Res RV} {g : D → D → Option RV} (ho : OpR X (compareOp op) r) (hp : Pure2 X.K r g) (ha : DE X W a fa) (hb : DE X W b fb) (hm : behindInMarks op b = false := by rfl) : DE X W (.Compare a [op] [b] pos) (eBin g fa fb) :=
  PE.weak (pe_cmpR ho ha hb hm) fun σ H Q h => rd2 hp σ H Q h
theorem de_un {a : Expr} {op : UnaryOp} {pos : Pos} {r : V → Hp → VK → Prop} {fa : Env → Res RV} {g : D → Option RV} (ho : UnR X (unaryOp op) r) (hp : Pure1 X.K r g) (ha : DE X W a fa) : DE X W (.UnaryOp op a pos) (eUn g fa) :=
  PE.weak (pe_un ho ha) fun σ H Q h => rd1 hp σ H Q h
theorem de_ix {a b : Expr} {pos : Pos} {r : R2} {fa fb : Env → Res RV} {g : D → D → Option RV} (ho : IxR X r) (hp : Pure2 X.K r g) (ha : DE X W a fa) (hb : DE X W b fb) (hs : PlainIx b := by intro _ _; rfl) : DE X W (.Subscript a b pos) (eBin g fa fb) :=
  PE.weak (pe_ix ho ha hb hs) fun σ H Q h => rd2 hp σ H Q h

/-! ### tests -/
theorem rdT_truth {f : Env → Res RV} {K : PySem.W.Frag} (σ : L2.St) (H : Hp) (Q : Bool → Hp → Prop) (h : rdT W K (eT f) σ H Q) : rdE W K f σ H fun x H1 => ∃ k, TruV K x H1 k ∧ Q k H1 := by
  obtain ⟨G, B, e, hK, R, q⟩ := h
  subst hK
  refine ⟨G, B, e, rfl, R, post.bind q fun x e1 v H1 B1 R1 P1 q => ?_⟩
  cases ho : (peek e1 x).bind truth with
  | none => rw [ho] at q; exact q.elim
  | some b =>
    rw [ho] at q
    obtain ⟨d, h1, h2⟩ := bind1 ho
    have t1 := RepR.top R1 P1 h1
    exact ⟨b, RepT.tru R1.bh t1 h2, q b H1 B1 R1 rfl⟩
theorem rdT_bool {f : Env → Res RV} {K : PySem.W.Frag} (σ : L2.St) (H : Hp) (Q : Bool → Hp → Prop) (h : rdT W K (eB f) σ H Q) : rdE W K f σ H fun x H1 => ∃ k, x = .bl k ∧ Q k H1 := by
  obtain ⟨G, B, e, hK, R, q⟩ := h
  subst hK
  refine ⟨G, B, e, rfl, R, post.bind q fun x e1 v H1 B1 R1 P1 q => ?_⟩
  match x, P1, q with
  | .v (.bl b), P1, q => cases (show Rep _ _ _ _ from P1) with | bl => exact ⟨b, rfl, q b H1 B1 R1 rfl⟩
  | .v .non, _, q => exact q.elim
  | .v (.int _), _, q => exact q.elim
  | .v (.str _), _, q => exact q.elim
  | .v (.lst _), _, q => exact q.elim
  | .v (.tup _), _, q => exact q.elim
  | .v (.dct _), _, q => exact q.elim
  | .v (.obj _ _), _, q => exact q.elim
  | .v (.ty _), _, q => exact q.elim
  | .v (.cls _), _, q => exact q.elim
  | .v (.exn _ _), _, q => exact q.elim
  | .v (.fl _), _, q => exact q.elim
  | .m _, _, q => exact q.elim
  | .b _, _, q => exact q.elim
theorem dt_val {a : Expr} {f : Env → Res RV} (h : DE X W a f) (he : ∀ whole, isTrue a X.env whole = (do let v ← whole; standAt a.pos; holding [v] (truthy v)) := by intro _; rfl) : DT X W a (eT f) :=
  PT.weak (pt_truth h he) fun σ H Q h => rdT_truth σ H Q h
theorem dt_cmp {a b : Expr} {op : CmpOp} {pos : Pos} {r : R2} {fa fb : Env → Res RV} {g : D → D → Option RV} (ho : OpR X (compareOp op) r) (hp : Pure2 X.K r g) (ha : DE X W a fa) (hb : DE X W b fb) (hm : behindInMarks op b = false := by rfl) : DT X W (.Compare a [op] [b] pos) (eB (eBin g fa fb)) :=
  PT.weak (pt_cmpR ho ha hb hm) fun σ H Q h => rd2 hp σ H _ (rdT_bool σ H Q h)
theorem dt_not {a : Expr} {pos : Pos} {t : Env → Res Bool} (h : DT X W a t) : DT X W (.UnaryOp .Not a pos) (tNotE t) := PT.weak (pt_not h) fun σ H Q ⟨G, B, e, hK, R, q⟩ => by
  refine ⟨G, B, e, hK, R, post.bind q fun x e1 v H1 B1 R1 P1 q => ?_⟩
  cases P1
  exact q _ H1 B1 R1 rfl
theorem rdT_and {t u : Env → Res Bool} {K : PySem.W.Frag} (σ : L2.St) (H : Hp) (Q : Bool → Hp → Prop) (h : rdT W K (tAndE t u) σ H Q) : tAnd (rdT W K t) (rdT W K u) σ H Q := by
  obtain ⟨G, B, e, hK, R, q⟩ := h
  refine ⟨G, B, e, hK, R, post.bind q fun x e1 v H1 B1 R1 P1 q => ?_⟩
  cases P1
  cases x with
  | true =>
    rw [if_pos rfl] at q ⊢
    exact ⟨G.at B H (Owned σ e), B1, e1, hK, R1, q.shift R1 fun _ _ _ _ _ z => z⟩
  | false =>
    rw [if_neg (by decide)] at q ⊢
    exact q false H1 B1 R1 rfl
theorem rdT_or {t u : Env → Res Bool} {K : PySem.W.Frag} (σ : L2.St) (H : Hp) (Q : Bool → Hp → Prop) (h : rdT W K (tOrE t u) σ H Q) : tOr (rdT W K t) (rdT W K u) σ H Q := by
  obtain ⟨G, B, e, hK, R, q⟩ := h
  refine ⟨G, B, e, hK, R, post.bind q fun x e1 v H1 B1 R1 P1 q => ?_⟩
  cases P1
  cases x with
  | false =>
    rw [if_neg (by decide)] at q ⊢
    exact ⟨G.at B H (Owned σ e), B1, e1, hK, R1, q.shift R1 fun _ _ _ _ _ z => z⟩
  | true =>
    rw [if_pos rfl] at q ⊢
    exact q true H1 B1 R1 rfl
/-- a test whatever its 'whole' is -/
def DW (X : Cx) (W : WX) (ex : Expr) (f : Env → Res Bool) : Prop := PW X ex (rdT W X.K f)
theorem PW.weak {X : Cx} {e : Expr} {t t' : TT} (h : PW X e t) (w : ∀ σ H Q, t' σ H Q → t σ H Q) : PW X e t' := ⟨fun wh pins s σ H Q I q => h.run wh pins s σ H Q I (w σ H Q q)⟩
theorem dw_and1 {a : Expr} {pos : Pos} {t : Env → Res Bool} (h : DT X W a t) : DW X W (.BoolOp .And [a] pos) t := pw_and1 h
theorem dw_or1 {a : Expr} {pos : Pos} {t : Env → Res Bool} (h : DT X W a t) : DW X W (.BoolOp .Or [a] pos) t := pw_or1 h
theorem dw_and {a b : Expr} {rest : List Expr} {pos : Pos} {t u : Env → Res Bool} (ha : DT X W a t) (hb : DW X W (.BoolOp .And (b :: rest) pos) u) : DW X W (.BoolOp .And (a :: b :: rest) pos) (tAndE t u) := PW.weak (pw_and ha hb) fun σ H Q h => rdT_and σ H Q h
theorem dw_or {a b : Expr} {rest : List Expr} {pos : Pos} {t u : Env → Res Bool} (ha : DT X W a t) (hb : DW X W (.BoolOp .Or (b :: rest) pos) u) : DW X W (.BoolOp .Or (a :: b :: rest) pos) (tOrE t u) := PW.weak (pw_or ha hb) fun σ H Q h => rdT_or σ H Q h
theorem dt_w {a : Expr} {t : Env → Res Bool} (h : DW X W a t) : DT X W a t := PW.pt h
end
end DL

namespace DL
open PySem L2

/-! ### displays -/
def eDs : List (Env → Res RV) → Env → Res (List D)
  | [] => fun e => .ok [] e
  | f :: fs => fun e => (f e).bind fun x e1 => match toD e1 x with
    | some (d, e2) => (eDs fs e2).bind fun ds e3 => .ok (d :: ds) e3
    | none => .no
def eTup (fs : List (Env → Res RV)) : Env → Res RV := fun e => (eDs fs e).bind fun ds e1 => if ds.length ≤ sizeLine then .ok (.v (.tup ds)) e1 else .no
def eLst (fs : List (Env → Res RV)) : Env → Res RV := fun e => (eDs fs e).bind fun ds e1 => if ds.length ≤ sizeLine then .ok (.m (.l ds)) e1 else .no
/-- values side by side, looked at, not kept -/
def eVs : List (Env → Res RV) → Env → Res (List RV)
  | [] => fun e => .ok [] e
  | f :: fs => fun e => (f e).bind fun x e1 => (eVs fs e1).bind fun xs e2 => .ok (x :: xs) e2
def peeks (e : Env) : List RV → Option (List D)
  | [] => some []
  | x :: xs => (peek e x).bind fun d => (peeks e xs).bind fun ds => some (d :: ds)
/-- a built-in function by values -/
def eBi (g : List D → Option RV) (fs : List (Env → Res RV)) : Env → Res RV := fun e => (eVs fs e).bind fun xs e1 => giv e1 ((peeks e1 xs).bind g)

section
variable {X : Cx} {W : WX}
theorem bkDs {G : Gm} {B H B1 H1 : Hp} {σ : L2.St} {e e1 : Env} (B2 H2 : Hp) (e2 : Env) (x : List D) (v : List V) (h : vDs.rp ((G.at B H (Owned σ e)).at B1 H1 (Owned σ e1)) B2 H2 σ e2 x v) : vDs.rp (G.at B H (Owned σ e)) B2 H2 σ e2 x v := h
theorem dd_nil : DD X W [] (eDs []) := PA.weak pa_nil fun σ H Q ⟨G, B, e, hK, R, q⟩ => q [] H B R.rebase .nil
theorem dd_cons {a : Expr} {es : List Expr} {f : Env → Res RV} {fs : List (Env → Res RV)} (ha : DE X W a f) (hr : DD X W es (eDs fs)) (hs : starEach (a :: es) X.env = (false, eval a X.env) :: starEach es X.env := by rfl) : DD X W (a :: es) (eDs (f :: fs)) :=
  PA.weak (pa_cons ha hr hs) fun σ H Q ⟨G, B, e, hK, R, q⟩ => by
    refine ⟨G, B, e, hK, R, post.bind q fun x e1 v H1 B1 R1 P1 q => ?_⟩
    cases ht : toD e1 x with
    | none => rw [ht] at q; exact q.elim
    | some p =>
      obtain ⟨d, e2⟩ := p
      rw [ht] at q
      obtain ⟨B2, R2, s2, rp⟩ := Rel.frz R1 P1 ht
      refine ⟨G.at B H (Owned σ e), B2, e2, hK, R2, post.bind (q.shift R2 fun B3 H3 e3 x v h => h) fun ds e3 w H3 B3 R3 P3 q => ?_⟩
      exact q (v :: w) H3 B3 R3 (.cons (rp.mono R3.b0) P3)
theorem de_tup {es : List Expr} {fs : List (Env → Res RV)} {k : Nat} {pos : Pos} (h : DD X W es (eDs fs)) : DE X W (.Tuple es k pos) (eTup fs) := PE.weak (pe_tup h) fun σ H Q ⟨G, B, e, hK, R, q⟩ => by
  refine ⟨G, B, e, hK, R, post.bind q fun ds e1 w H1 B1 R1 P1 q => ?_⟩
  by_cases z : ds.length ≤ sizeLine
  · rw [if_pos z] at q
    have P1 : RepA G.K B1 w ds := P1
    refine ⟨by rw [P1.len]; exact z, fun p hp => ?_⟩
    have g := Grow.new (o := .tup w) R1.bh hp
    exact q (.ref p) _ _ (R1.grow g) (show Rep G.K _ _ _ from .tup (SqT.of upd_same) (P1.mono g.eb))
  · rw [if_neg z] at q; exact q.elim
theorem de_lst {es : List Expr} {fs : List (Env → Res RV)} {pos : Pos} (h : DD X W es (eDs fs)) : DE X W (.List es pos) (eLst fs) := PE.weak (pe_lst h) fun σ H Q ⟨G, B, e, hK, R, q⟩ => by
  refine ⟨G, B, e, hK, R, post.bind q fun ds e1 w H1 B1 R1 P1 q => ?_⟩
  by_cases z : ds.length ≤ sizeLine
  · rw [if_pos z] at q
    have P1 : RepA G.K B1 w ds := P1
    refine ⟨by rw [P1.len]; exact z, fun p hp => ?_⟩
    have g := Grow.own (o := .lst w) R1.bh hp
    exact q (.ref p) _ _ (R1.grow g) (OutOk.rep (B' := B1) (x := .m (.l ds)) R1 ⟨p, .lst w, rfl, hp, upd_same, ⟨w, rfl, P1⟩, R1.bh.free hp⟩)
  · rw [if_neg z] at q; exact q.elim

/-! ### built-in functions -/
theorem bkL {G : Gm} {B H B1 H1 : Hp} {σ : L2.St} {e e1 : Env} (R1 : Rel (G.at B H (Owned σ e)) B1 H1 σ e1) (B2 H2 : Hp) (e2 : Env) (x : List RV) (v : List V) (h : vL.rp ((G.at B H (Owned σ e)).at B1 H1 (Owned σ e1)) B2 H2 σ e2 x v) : vL.rp (G.at B H (Owned σ e)) B2 H2 σ e2 x v :=
  Paired.mapP h fun _ _ z => RepR.back R1 z
theorem da_nil : DA X W [] (eVs []) := PA.weak pa_nil fun σ H Q ⟨G, B, e, hK, R, q⟩ => q [] H B R.rebase .nil
theorem da_cons {a : Expr} {es : List Expr} {f : Env → Res RV} {fs : List (Env → Res RV)} (ha : DE X W a f) (hr : DA X W es (eVs fs)) (hs : starEach (a :: es) X.env = (false, eval a X.env) :: starEach es X.env := by rfl) : DA X W (a :: es) (eVs (f :: fs)) :=
  PA.weak (pa_cons ha hr hs) fun σ H Q ⟨G, B, e, hK, R, q⟩ => by
    refine ⟨G, B, e, hK, R, post.bind q fun x e1 v H1 B1 R1 P1 q => ?_⟩
    refine ⟨G.at B H (Owned σ e), B1, e1, hK, R1, post.bindS R1 q fun xs e2 w H2 B2 R2 S2 P2 q => ?_⟩
    exact q (v :: w) H2 B2 R2 (.cons (RepR.keep R1 P1 S2) (Paired.mapP P2 fun _ _ z => RepR.back R1 z))
theorem Paired.tops {G : Gm} {B H : Hp} {σ : L2.St} {e : Env} (R : Rel G B H σ e) : ∀ {xs : List RV} {vs : List V} {ds : List D}, Paired (fun v x => RepR G B H σ e x v) vs xs → peeks e xs = some ds → Paired (RepT G.K B H) vs ds
  | [], _, _, .nil, h => by cases h; exact .nil
  | x :: xs, _, _, .cons h t, hp => by
    obtain ⟨d, h1, h2⟩ := bind1 hp
    obtain ⟨ds, h3, h4⟩ := bind1 h2
    cases h4
    exact .cons (RepR.top R h h1) (Paired.tops R t h3)

theorem rdN {fs : List (Env → Res RV)} {g : List D → Option RV} {K : PySem.W.Frag} {r : List V → Hp → VK → Prop} (hp : PureN K r g) (σ : L2.St) (H : Hp) (Q : VK) (h : rdE W K (eBi g fs) σ H Q) : rdA W K (eVs fs) σ H fun xs H1 => r xs H1 Q := by
  obtain ⟨G, B, e, hK, R, q⟩ := h
  subst hK
  refine ⟨G, B, e, rfl, R, post.bind q fun xs e1 v H1 B1 R1 P1 q => ?_⟩
  obtain ⟨out, ho, q⟩ := giv_post R1 q
  obtain ⟨ds, h1, h2⟩ := bind1 ho
  have t1 := Paired.tops R1 P1 h1
  exact hp B1 H1 v ds out Q R1.bh t1 h2 q
theorem de_bi {x : Str} {p pos : Pos} {a : Expr} {es : List Expr} {id : String} {fs : List (Env → Res RV)} {g : List D → Option RV} {r : List V → Hp → VK → Prop} (hc : CallR X (.builtin id) r) (hp : PureN X.K r g) (hg : Gl X x) (hm : X.mg x = none) (hv : bootBuiltins x = some (.builtin id)) (ha : DA X W (a :: es) (eVs fs))
    (hn : x ≠ "__name__" := by decide) (hdb : (x == ("__debug__" : Str)) = false := by decide)
    (he : starEach (a :: es) X.env = (false, eval a X.env) :: starEach es X.env := by rfl) (hpl : (backTo pos (starEach es X.env)).any (·.1) = false := by rfl) : DE X W (.Call (.Name x p) (a :: es) [] pos) (eBi g fs) :=
  PE.weak (pe_callB hc hg hm hv ha hn hdb he hpl) fun σ H Q h => rdN hp σ H Q h
theorem de_ty {x : Str} {p pos : Pos} {a : Expr} {es : List Expr} {T : String} {fs : List (Env → Res RV)} {g : List D → Option RV} {r : List V → Hp → VK → Prop} (hc : CallR X (.type T) r) (hp : PureN X.K r g) (hg : Gl X x) (hm : X.mg x = none) (hv : bootBuiltins x = some (.type T)) (ha : DA X W (a :: es) (eVs fs))
    (hn : x ≠ "__name__" := by decide) (hdb : (x == ("__debug__" : Str)) = false := by decide)
    (he : starEach (a :: es) X.env = (false, eval a X.env) :: starEach es X.env := by rfl) (hpl : (backTo pos (starEach es X.env)).any (·.1) = false := by rfl) : DE X W (.Call (.Name x p) (a :: es) [] pos) (eBi g fs) :=
  PE.weak (pe_callTy hc hg hm hv ha hn hdb he hpl) fun σ H Q h => rdN hp σ H Q h

/-! ### and, or, not, if .. else as values; a < b < c -/
theorem de_not {a : Expr} {pos : Pos} {f : Env → Res RV} (h : DE X W a f) : DE X W (.UnaryOp .Not a pos) (eNot f) := PE.weak (pe_notT h) fun σ H Q ⟨G, B, e, hK, R, q⟩ => by
  refine ⟨G, B, e, hK, R, post.bind q fun x e1 v H1 B1 R1 P1 q => ?_⟩
  cases ho : (peek e1 x).bind truth with
  | none => rw [ho] at q; exact q.elim
  | some b =>
    rw [ho] at q
    obtain ⟨d, h1, h2⟩ := bind1 ho
    have t1 := RepR.top R1 P1 h1
    exact ⟨b, hK ▸ RepT.tru R1.bh t1 h2, q _ H1 B1 R1 (show Rep G.K _ _ _ from .bl _)⟩
theorem de_and1 {a : Expr} {pos : Pos} {f : Env → Res RV} (h : DE X W a f) : DE X W (.BoolOp .And [a] pos) f := pe_one h
theorem de_or1 {a : Expr} {pos : Pos} {f : Env → Res RV} (h : DE X W a f) : DE X W (.BoolOp .Or [a] pos) f := pe_one h
theorem de_and {a b : Expr} {rest : List Expr} {pos : Pos} {f g : Env → Res RV} (ha : DE X W a f) (hb : DE X W (.BoolOp .And (b :: rest) pos) g) : DE X W (.BoolOp .And (a :: b :: rest) pos) (eAnd f g) := PE.weak (pe_andT ha hb) fun σ H Q ⟨G, B, e, hK, R, q⟩ => by
  refine ⟨G, B, e, hK, R, post.bind q fun x e1 v H1 B1 R1 P1 q => ?_⟩
  cases ho : (peek e1 x).bind truth with
  | none => rw [ho] at q; exact q.elim
  | some b =>
    rw [ho] at q
    obtain ⟨d, h1, h2⟩ := bind1 ho
    have t1 := RepR.top R1 P1 h1
    refine ⟨b, hK ▸ RepT.tru R1.bh t1 h2, ?_⟩
    cases b with
    | true => exact ⟨G.at B H (Owned σ e), B1, e1, hK, R1, post.shift R1 (bkR R1) q⟩
    | false => exact q v H1 B1 R1 P1
theorem de_or {a b : Expr} {rest : List Expr} {pos : Pos} {f g : Env → Res RV} (ha : DE X W a f) (hb : DE X W (.BoolOp .Or (b :: rest) pos) g) : DE X W (.BoolOp .Or (a :: b :: rest) pos) (eOr f g) := PE.weak (pe_orT ha hb) fun σ H Q ⟨G, B, e, hK, R, q⟩ => by
  refine ⟨G, B, e, hK, R, post.bind q fun x e1 v H1 B1 R1 P1 q => ?_⟩
  cases ho : (peek e1 x).bind truth with
  | none => rw [ho] at q; exact q.elim
  | some b =>
    rw [ho] at q
    obtain ⟨d, h1, h2⟩ := bind1 ho
    have t1 := RepR.top R1 P1 h1
    refine ⟨b, hK ▸ RepT.tru R1.bh t1 h2, ?_⟩
    cases b with
    | false => exact ⟨G.at B H (Owned σ e), B1, e1, hK, R1, post.shift R1 (bkR R1) q⟩
    | true => exact q v H1 B1 R1 P1
theorem de_if {c a b : Expr} {pos : Pos} {t : Env → Res Bool} {f g : Env → Res RV} (hc : DT X W c t) (ha : DE X W a f) (hb : DE X W b g) : DE X W (.IfExp c a b pos) (eIf t f g) := PE.weak (pe_ifExp hc ha hb) fun σ H Q ⟨G, B, e, hK, R, q⟩ => by
  refine ⟨G, B, e, hK, R, post.bind q fun x e1 v H1 B1 R1 P1 q => ?_⟩
  cases P1
  cases x with
  | true => exact ⟨G.at B H (Owned σ e), B1, e1, hK, R1, post.shift R1 (bkR R1) q⟩
  | false => exact ⟨G.at B H (Owned σ e), B1, e1, hK, R1, post.shift R1 (bkR R1) q⟩
theorem rd_chain {fa fb fc : Env → Res RV} {g g' : D → D → Option RV} {K : PySem.W.Frag} {r r' : R2} (hp : Pure2 K r g) (hp' : Pure2 K r' g') (σ : L2.St) (H : Hp) (Q : VK) (h : rdE W K (eChain g g' fa fb fc) σ H Q) :
    tChain r r' (rdE W K fa) (rdE W K fb) (rdE W K fc) σ H Q := by
  obtain ⟨G, B, e, hK, R, q⟩ := h
  subst hK
  refine ⟨G, B, e, rfl, R, post.bind q fun x e1 v H1 B1 R1 P1 q => ?_⟩
  refine ⟨G.at B H (Owned σ e), B1, e1, rfl, R1, post.bindS R1 q fun y e2 w H2 B2 R2 S2 P2 q => ?_⟩
  cases ho : ((peek e2 x).bind fun dx => (peek e2 y).bind fun dy => g dx dy) with
  | none => rw [ho] at q; exact q.elim
  | some out =>
    rw [ho] at q
    obtain ⟨d, c, h1, h2, h3⟩ := bind2 ho
    have P3 := RepR.keep R1 P1 S2
    have P4 := RepR.back R1 P2
    have t1 := RepR.top R2 P3 h1
    have t2 := RepR.top R2 P4 h2
    refine hp B2 H2 v w d c out _ R2.bh t1 t2 h3 fun v' B' H' gr ok => ?_
    match out, ok, q with
    | .v (.bl b), ok, q =>
      cases (show Rep _ _ _ _ from ok)
      refine ⟨b, rfl, ?_⟩
      have R2' := R2.grow gr
      cases b with
      | false =>
        rw [if_neg (by decide)]
        have q : post vR W G B H σ e Q (.ok (.v (.bl false)) e2) := q
        exact q _ H' B' R2' (show Rep G.K _ _ _ from .bl _)
      | true =>
        rw [if_pos rfl]
        have q : post vR W G B H σ e Q ((fc e2).bind fun z e3 => giv e3 ((peek e3 y).bind fun dy => (peek e3 z).bind fun dz => g' dy dz)) := q
        have P4' : RepR (G.at B H (Owned σ e)) B' H' σ e2 y w := RepR.keep R2 P4 (R2.rebase.grow gr)
        refine ⟨G.at B H (Owned σ e), B', e2, rfl, R2', post.bindS R2' q fun z e3 u H3 B3 R3 S3 P5 q => ?_⟩
        obtain ⟨out, ho, q⟩ := giv_post R3 q
        obtain ⟨d, c, h1, h2, h3⟩ := bind2 ho
        have t1 := RepR.top R3 (RepR.keep R2' P4' S3) h1
        have t2 := RepR.top R3 (RepR.back R2' P5) h2
        exact hp' B3 H3 w u d c out _ R3.bh t1 t2 h3 q
    | .v .non, _, q => exact q.elim
    | .v (.int _), _, q => exact q.elim
    | .v (.str _), _, q => exact q.elim
    | .v (.lst _), _, q => exact q.elim
    | .v (.tup _), _, q => exact q.elim
    | .v (.dct _), _, q => exact q.elim
    | .v (.obj _ _), _, q => exact q.elim
    | .v (.ty _), _, q => exact q.elim
    | .v (.cls _), _, q => exact q.elim
    | .v (.exn _ _), _, q => exact q.elim
    | .v (.fl _), _, q => exact q.elim
    | .m _, _, q => exact q.elim
    | .b _, _, q => exact q.elim
theorem de_chain {a b c : Expr} {op op' : CmpOp} {pos : Pos} {r r' : R2} {fa fb fc : Env → Res RV} {g g' : D → D → Option RV} (ho : OpR X (compareOp op) r) (hp : Pure2 X.K r g) (ho' : OpR X (compareOp op') r') (hp' : Pure2 X.K r' g') (ha : DE X W a fa) (hb : DE X W b fb) (hc : DE X W c fc)
    (hm : lastMarks [op, op'] [b, c] = false := by with_unfolding_all rfl) : DE X W (.Compare a [op, op'] [b, c] pos) (eChain g g' fa fb fc) := PE.weak (pe_chain ho ho' ha hb hc hm) fun σ H Q h => rd_chain hp hp' σ H Q h
theorem dt_chain {a b c : Expr} {op op' : CmpOp} {pos : Pos} {r r' : R2} {fa fb fc : Env → Res RV} {g g' : D → D → Option RV} (ho : OpR X (compareOp op) r) (hp : Pure2 X.K r g) (ho' : OpR X (compareOp op') r') (hp' : Pure2 X.K r' g') (ha : DE X W a fa) (hb : DE X W b fb) (hc : DE X W c fc)
    (hm : lastMarks [op, op'] [b, c] = false := by with_unfolding_all rfl) : DT X W (.Compare a [op, op'] [b, c] pos) (eB (eChain g g' fa fb fc)) := PT.weak (pt_chain ho ho' ha hb hc hm) fun σ H Q h => rd_chain hp hp' σ H _ (rdT_bool σ H Q h)
end
end DL

namespace DL
open PySem L2 PySem.Spec PyProof.Rows

/-! ### a def that keeps its promise where no repr is under way -/
structure FnG (P : Program) (w : World) (K : PySem.W.Frag) (mg : Str → Option Value) (base : Heap) (k : Nat) (f : Addr) (fd : FuncData) (ps : List Str) (sp : Sp) : Prop where
  len : ∀ vs H Q E, sp vs H Q E → vs.length = ps.length
  run : ∀ (A : Around) (out : List PySem.Env) (st : Shared) (H : Hp) (ar : Args) (us : List Value) (vs : List V) (Q : VK) (E : XK), A.guards = some [] → Room k A → Env0 P w K mg base A out st H → BindsTo st fd ar (ps.zip us) → Vals vs us → sp vs H Q E →
    codeAny (model P w) A (.call (.ref f) ar) (CR (L2.CX P w) out P w H st Q E) st
section
variable {X : Cx} {k : Nat} {f : Addr} {fd : FuncData} {ps : List Str} {sp : Sp} {dvs : List V} {ds : List Value} {E : L2.St → XK} {x : Str} {p pos : Pos} {e : Expr} {es : List Expr} {t : TA}
theorem runG {pins : List (Addr × Obj)} {σ : L2.St} {H : Hp} {st : Shared} {Q : VK} {us : List Value} {vs : List V} (F : FnG X.prog X.w X.K X.mg X.base k f fd ps sp) (hg : X.A.guards = some []) (hr : Room k X.A) (hb : Binds X.K fd ps ds) (hd : Vals dvs ds)
    (hx : PassesAt (L2.CX X.prog X.w) X σ (E σ)) (I : Inv X pins σ H st) (rv : Vals vs us) (h : sp (vs ++ dvs) H Q (E σ)) : wpAny (model X.prog X.w) X.A (call (.ref f) us) (EP X pins σ Q) X.xe st := by
  have both : Vals (vs ++ dvs) (us ++ ds) := rv.append hd
  have many : (us ++ ds).length = ps.length := both.length ▸ F.len _ _ _ _ h
  have go := F.run X.A X.stack st H ⟨us, []⟩ _ _ Q (E σ) hg hr I.env0 (hb st us I.kIn many) both h
  refine wpAny_call (codeAny_mono go fun res st' hq => ?_)
  match res, hq with
  | .error ex, hq => exact hx pins H st ex st' I hq
  | .ok (.ret u), hq => exact I.after hq
  | .ok .next, hq => exact hq.elim
  | .ok .brk, hq => exact hq.elim
  | .ok .cont, hq => exact hq.elim
theorem pe_callG (F : FnG X.prog X.w X.K X.mg X.base k f fd ps sp) (hgu : X.A.guards = some []) (hr : Room k X.A) (hg : Gl X x) (hm : X.mg x = some (.ref f)) (hk : PySem.W.keepIn X.K (.ref f) = true) (hb : Binds X.K fd ps ds) (hd : Vals dvs ds)
    (hx : ∀ σ, PassesAt (L2.CX X.prog X.w) X σ (E σ)) (ha : PA X (e :: es) t) (hdb : (x == ("__debug__" : Str)) = false := by decide)
    (he : starEach (e :: es) X.env = (false, eval e X.env) :: starEach es X.env := by rfl) (hpl : (backTo pos (starEach es X.env)).any (·.1) = false := by rfl) : PE X (.Call (.Name x p) (e :: es) [] pos) (tCallSD sp dvs E t) := by
  constructor
  intro pins st σ H Q I h
  refine wpAny_Call_Name_kw (ld_glob I hg hm (PySem.W.callWith_K (h₀ := X.base) I.ok.mod.kin hk (thn (ha.run pos pins st σ H _ I h) ?_) he hpl) hdb)
  rintro us st1 ⟨vs, H1, I1, rv, q⟩
  exact ⟨I1.kIn, runG F hgu hr hb hd (hx σ) I1 rv q⟩
end

/-! ### defs: what a def does, by data; at most one argument is the caller's own thing -/
inductive Ret where
  | ok (x : RV) (m : Option M) | exc (x : EX) (m : Option M) | no
inductive Arg where
  | v (d : D) | io (i : Nat) | bor (i : Nat)
/-- how an argument is handed on: kept from now on; the caller's own, may turn; the caller's own, only looked at -/
inductive AK where
  | v | io | bor
/-- the arguments' addresses that may turn -/
def inoOf (io : Option Nat) (vs : List V) (a : Addr) : Prop := ∃ k, io = some k ∧ vs[k]? = some (.ref a)
def ioAt (io : Option Nat) (vs : List V) (i : Nat) : Option Addr := if io = some i then (match vs[i]? with
  | some (.ref a) => some a
  | _ => none) else none
def G0 (K : PySem.W.Frag) (io : Option Nat) (B H : Hp) (vs : List V) : Gm := ⟨K, H, B, H, inoOf io vs, ioAt io vs⟩
/-- behind the def -/
structure After (K : PySem.W.Frag) (io : Option Nat) (B H : Hp) (vs : List V) (m : Option M) (B' H' : Hp) : Prop where
  eb : Same B B'
  bh : Same B' H'
  dm : ∀ a, H' a = none → H a = none
  fr : ∀ a o, H a = some o → ¬ inoOf io vs a → H' a = some o
  bf : ∀ a o, H a = some o → ¬ inoOf io vs a → B a = none → B' a = none
  io : ∀ k, io = some k → ∃ a o m', vs[k]? = some (.ref a) ∧ m = some m' ∧ H' a = some o ∧ MOk K B' m' o ∧ B' a = none
/-- what it tells: a thing that never changes, or a new own one -/
def RetR (K : PySem.W.Frag) (H B' H' : Hp) (x : RV) (v : V) : Prop := OutOk K H B' H' x v
/-- the shape of the arguments -/
def shape (io : Option Nat) (e : Env) : Prop := ∀ (k : Nat) (s : Slot), e[k]? = some s → match s with
  | .u => False
  | .v _ => io ≠ some k
  | .o p q _ => io = some k ∧ p = true ∧ q = false
def spD (K : PySem.W.Frag) (n : Nat) (io : Option Nat) (F : Env → Ret) : Sp := fun vs H Q E => vs.length = n ∧ ∃ (B : Hp) (e : Env), Rel (G0 K io B H vs) B H (vs.map some) e ∧ shape io e ∧ match F e with
  | .ok x m => ∀ v B' H', After K io B H vs m B' H' → RetR K H B' H' x v → Q v H'
  | .exc x m => ∀ cls d B' H', After K io B H vs m B' H' → RepX K B' x cls d → E cls d H'
  | .no => False
/-- a def of the program that keeps its promise; ds: its defaults -/
def Def (P : Program) (w : World) (K : PySem.W.Frag) (mg : Str → Option Value) (base : Heap) (nm : Str) (k n : Nat) (ds : List D) (io : Option Nat) (F : Env → Ret) : Prop :=
  ∃ (f : Addr) (fd : FuncData) (ps : List Str) (us : List Value) (dvs : List V), mg nm = some (.ref f) ∧ PySem.W.keepIn K (.ref f) = true ∧ Binds K fd ps us ∧ Vals dvs us ∧ (∀ B, RepA K B dvs ds) ∧ FnG P w K mg base k f fd ps (spD K n io F)

/-! ### a call of an own def -/
def eArgs : List (AK × (Env → Res RV)) → Env → Res (List Arg)
  | [] => fun e => .ok [] e
  | (.v, f) :: fs => fun e => (f e).bind fun x e1 => match toD e1 x with
    | some (d, e2) => (eArgs fs e2).bind fun ds e3 => .ok (.v d :: ds) e3
    | none => .no
  | (.io, f) :: fs => fun e => (f e).bind fun x e1 => match x with
    | .b i => (eArgs fs e1).bind fun ds e3 => .ok (.io i :: ds) e3
    | _ => .no
  | (.bor, f) :: fs => fun e => (f e).bind fun x e1 => match x with
    | .b i => (eArgs fs e1).bind fun ds e3 => .ok (.bor i :: ds) e3
    | .v d => (eArgs fs e1).bind fun ds e3 => .ok (.v d :: ds) e3
    | .m m => (eArgs fs e1).bind fun ds e3 => .ok (.v m.toD :: ds) e3
def vA : Vw (List Arg) (List V) := ⟨fun G B _ σ _ as vs => Paired (fun v a => match a with
  | .v d => Rep G.K B v d
  | .io i => σ[i]? = some (some v)
  | .bor i => σ[i]? = some (some v)) vs as⟩
abbrev rdG := @rd (List Arg) (List V) vA
def DG (X : Cx) (W : WX) (es : List Expr) (f : Env → Res (List Arg)) : Prop := PA X es (rdG W X.K f)
/-- the callee's slots -/
def slotsOf (e : Env) : List Arg → Option Env
  | [] => some []
  | .v d :: as => (slotsOf e as).bind fun s => some (.v d :: s)
  | .io i :: as => match e[i]? with
    | some (.o _ false m) => (slotsOf e as).bind fun s => some (.o true false m :: s)
    | _ => none
  | .bor i :: as => match e[i]? with
    | some (.o _ _ m) => (slotsOf e as).bind fun s => some (.v m.toD :: s)
    | _ => none
/-- which argument is handed on as the caller's own -/
def ioOf : List Arg → Nat → Option (Nat × Nat)
  | [], _ => none
  | .v _ :: as, k => ioOf as (k + 1)
  | .bor _ :: as, k => ioOf as (k + 1)
  | .io i :: _, k => some (k, i)
def countIo : List Arg → Nat
  | [] => 0
  | .v _ :: as => countIo as
  | .bor _ :: as => countIo as
  | .io _ :: as => countIo as + 1
def borsOf : List Arg → List Nat
  | [] => []
  | .bor i :: as => i :: borsOf as
  | .v _ :: as => borsOf as
  | .io _ :: as => borsOf as
/-- nothing in it is a list or a dict -/
def nol : D → Bool
  | .lst _ => false
  | .dct _ => false
  | .tup xs => nolA xs
  | .fl _ => false
  | .obj _ fs => nolF fs
  | .exn _ fs => nolF fs
  | _ => true
where
  nolA : List D → Bool
    | [] => true
    | x :: xs => nol x && nolA xs
  nolF : List (Str × D) → Bool
    | [] => true
    | (_, x) :: xs => nol x && nolF xs
def nolK : List (Key × D) → Bool
  | [] => true
  | (_, x) :: xs => nol x && nolK xs
def nolM : M → Bool
  | .l ds => nol.nolA ds
  | .d kvs => nolK kvs
def nolO : Option M → Bool
  | none => true
  | some m => nolM m
def nolR : RV → Bool
  | .v d => nol d
  | .m m => nolM m
  | .b _ => true
def nolX (x : EX) : Bool := nol.nolF x.fs
/-- what was only looked at may be used on as it was -/
def borOk (as : List Arg) (r : Bool) (m : Option M) : Bool := (borsOf as).isEmpty || ((borsOf as).all (fun i => decide ((ioOf as 0).map (·.2) ≠ some i)) && r && nolO m)
def putBack (e : Env) (i : Nat) (m : M) : Env := match e[i]? with
  | some (.o p q _) => e.set i (.o p q m)
  | _ => e
def back1 (e : Env) (o : Option (Nat × Nat)) (m : Option M) : Env := match o, m with
  | some (_, i), some m => putBack e i m
  | _, _ => e
def callF (F : Env → Ret) (n : Nat) (io : Option Nat) (ds : List D) (as : List Arg) (e : Env) : Res RV :=
  match slotsOf e as with
  | none => .no
  | some s => if countIo as ≤ 1 ∧ (ioOf as 0).map (·.1) = io ∧ s.length + ds.length = n then match F (s ++ ds.map Slot.v) with
    | .ok x m => match x with
      | .b _ => .no
      | _ => if borOk as (nolR x) m = true then .ok x (back1 e (ioOf as 0) m) else .no
    | .exc x m => if borOk as (nolX x) m = true then .exc x (back1 e (ioOf as 0) m) else .no
    | .no => .no
    else .no
def eCall (F : Env → Ret) (n : Nat) (io : Option Nat) (ds : List D) (fs : List (AK × (Env → Res RV))) : Env → Res RV := fun e => (eArgs fs e).bind fun as e1 => callF F n io ds as e1

section
variable {X : Cx} {W : WX}
theorem dg_nil : DG X W [] (eArgs []) := PA.weak pa_nil fun σ H Q ⟨G, B, e, hK, R, q⟩ => q [] H B R.rebase .nil
theorem vA_mono {G G' : Gm} {B B' H H' : Hp} {σ : L2.St} {e e' : Env} (hG : G'.K = G.K) (hs : Same B B') {as : List Arg} {vs : List V} (h : vA.rp G B H σ e as vs) : vA.rp G' B' H' σ e' as vs :=
  Paired.mapP h fun v a z => by
    cases a with
    | v d => exact hG ▸ Rep.mono hs z
    | io i => exact z
    | bor i => exact z
theorem dg_v {a : Expr} {es : List Expr} {f : Env → Res RV} {fs : List (AK × (Env → Res RV))} (ha : DE X W a f) (hr : DG X W es (eArgs fs)) (hs : starEach (a :: es) X.env = (false, eval a X.env) :: starEach es X.env := by rfl) : DG X W (a :: es) (eArgs ((.v, f) :: fs)) :=
  PA.weak (pa_cons ha hr hs) fun σ H Q ⟨G, B, e, hK, R, q⟩ => by
    refine ⟨G, B, e, hK, R, post.bind q fun x e1 v H1 B1 R1 P1 q => ?_⟩
    cases ht : toD e1 x with
    | none => rw [ht] at q; exact q.elim
    | some p =>
      obtain ⟨d, e2⟩ := p
      rw [ht] at q
      obtain ⟨B2, R2, s2, rp⟩ := Rel.frz R1 P1 ht
      refine ⟨G.at B H (Owned σ e), B2, e2, hK, R2, post.bindS R2 q fun ds e3 w H3 B3 R3 S3 P3 q => ?_⟩
      exact q (v :: w) H3 B3 R3 (.cons (Rep.mono S3.b0 rp) P3)
theorem dg_io {a : Expr} {es : List Expr} {f : Env → Res RV} {fs : List (AK × (Env → Res RV))} (ha : DE X W a f) (hr : DG X W es (eArgs fs)) (hs : starEach (a :: es) X.env = (false, eval a X.env) :: starEach es X.env := by rfl) : DG X W (a :: es) (eArgs ((.io, f) :: fs)) :=
  PA.weak (pa_cons ha hr hs) fun σ H Q ⟨G, B, e, hK, R, q⟩ => by
    refine ⟨G, B, e, hK, R, post.bind q fun x e1 v H1 B1 R1 P1 q => ?_⟩
    match x, P1, q with
    | .b i, P1, q =>
      refine ⟨G.at B H (Owned σ e), B1, e1, hK, R1, post.bindS R1 q fun ds e3 w H3 B3 R3 S3 P3 q => ?_⟩
      exact q (v :: w) H3 B3 R3 (.cons P1 P3)
    | .v _, _, q => exact q.elim
    | .m _, _, q => exact q.elim

theorem dg_bor {a : Expr} {es : List Expr} {f : Env → Res RV} {fs : List (AK × (Env → Res RV))} (ha : DE X W a f) (hr : DG X W es (eArgs fs)) (hs : starEach (a :: es) X.env = (false, eval a X.env) :: starEach es X.env := by rfl) : DG X W (a :: es) (eArgs ((.bor, f) :: fs)) :=
  PA.weak (pa_cons ha hr hs) fun σ H Q ⟨G, B, e, hK, R, q⟩ => by
    refine ⟨G, B, e, hK, R, post.bind q fun x e1 v H1 B1 R1 P1 q => ?_⟩
    match x, P1, q with
    | .b i, P1, q =>
      refine ⟨G.at B H (Owned σ e), B1, e1, hK, R1, post.bindS R1 q fun ds e3 w H3 B3 R3 S3 P3 q => ?_⟩
      exact q (v :: w) H3 B3 R3 (.cons P1 P3)
    | .v d, P1, q =>
      obtain ⟨B2, R2, s2, rp⟩ := Rel.frz (x := .v d) (e' := e1) R1 P1 rfl
      refine ⟨G.at B H (Owned σ e), B2, e1, hK, R2, post.bindS R2 q fun ds e3 w H3 B3 R3 S3 P3 q => ?_⟩
      exact q (_ :: w) H3 B3 R3 (.cons (Rep.mono S3.b0 rp) P3)
    | .m m, P1, q =>
      obtain ⟨B2, R2, s2, rp⟩ := Rel.frz (x := .m m) (e' := e1) R1 P1 rfl
      refine ⟨G.at B H (Owned σ e), B2, e1, hK, R2, post.bindS R2 q fun ds e3 w H3 B3 R3 S3 P3 q => ?_⟩
      exact q (_ :: w) H3 B3 R3 (.cons (Rep.mono S3.b0 rp) P3)

theorem ioOf_shift : ∀ (as : List Arg) (k : Nat), ioOf as (k + 1) = (ioOf as k).map fun p => (p.1 + 1, p.2)
  | [], _ => rfl
  | .v _ :: as, k => ioOf_shift as (k + 1)
  | .bor _ :: as, k => ioOf_shift as (k + 1)
  | .io _ :: _, _ => rfl
theorem ioOf_none : ∀ {as : List Arg} {k : Nat}, countIo as = 0 → ioOf as k = none
  | [], _, _ => rfl
  | .v _ :: as, k, h => ioOf_none (as := as) h
  | .bor _ :: as, k, h => ioOf_none (as := as) h
  | .io _ :: _, _, h => absurd h (Nat.succ_ne_zero _)
/-- the callee's slots, one by one -/
theorem slots_at {G : Gm} {B H : Hp} {σ : L2.St} {e : Env} : ∀ {as : List Arg} {vs : List V} {s : Env}, vA.rp G B H σ e as vs → slotsOf e as = some s → s.length = vs.length ∧ as.length = vs.length ∧
    ∀ (k : Nat) (t : Slot), s[k]? = some t → ∃ v : V, vs[k]? = some v ∧ ((∃ d, t = .v d ∧ Rep G.K B v d ∧ as[k]? = some (.v d)) ∨ (∃ (i : Nat) (p : Bool) (m : M), t = .o true false m ∧ e[i]? = some (.o p false m) ∧ σ[i]? = some (some v) ∧ as[k]? = some (.io i)) ∨ ∃ (i : Nat) (p q : Bool) (m : M), t = .v m.toD ∧ e[i]? = some (.o p q m) ∧ σ[i]? = some (some v) ∧ as[k]? = some (.bor i))
  | [], _, _, .nil, h => by
    cases h
    exact ⟨rfl, rfl, fun k t h => by simp at h⟩
  | .v d :: as, v :: vs, _, .cons h1 h2, h => by
    obtain ⟨s', h3, h4⟩ := bind1 h
    cases h4
    obtain ⟨l1, l2, k1⟩ := slots_at (H := H) h2 h3
    refine ⟨by simp [l1], by simp [l2], fun k t ht => ?_⟩
    cases k with
    | zero =>
      simp at ht
      subst ht
      exact ⟨_, rfl, .inl ⟨d, rfl, h1, rfl⟩⟩
    | succ k => simpa using k1 k t (by simpa using ht)
  | .io i :: as, v :: vs, s, .cons h1 h2, h => by
    have h : (match e[i]? with
      | some (.o _ false m) => (slotsOf e as).bind fun s => some (.o true false m :: s)
      | _ => none) = some s := h
    cases he : e[i]? with
    | none => rw [he] at h; cases h
    | some t =>
      rw [he] at h
      cases t with
      | u => cases h
      | v _ => cases h
      | o p q m =>
        cases q with
        | true => cases h
        | false =>
          obtain ⟨s', h3, h4⟩ := bind1 h
          cases h4
          obtain ⟨l1, l2, k1⟩ := slots_at (H := H) h2 h3
          refine ⟨by simp [l1], by simp [l2], fun k t ht => ?_⟩
          cases k with
          | zero =>
            simp at ht
            subst ht
            exact ⟨_, rfl, .inr (.inl ⟨i, p, m, rfl, he, h1, rfl⟩)⟩
          | succ k => simpa using k1 k t (by simpa using ht)
  | .bor i :: as, v :: vs, s, .cons h1 h2, h => by
    have h : (match e[i]? with
      | some (.o _ _ m) => (slotsOf e as).bind fun s => some (.v m.toD :: s)
      | _ => none) = some s := h
    cases he : e[i]? with
    | none => rw [he] at h; cases h
    | some t =>
      rw [he] at h
      cases t with
      | u => cases h
      | v _ => cases h
      | o p q m =>
        obtain ⟨s', h3, h4⟩ := bind1 h
        cases h4
        obtain ⟨l1, l2, k1⟩ := slots_at (H := H) h2 h3
        refine ⟨by simp [l1], by simp [l2], fun k t ht => ?_⟩
        cases k with
        | zero =>
          simp at ht
          subst ht
          exact ⟨_, rfl, .inr (.inr ⟨i, p, q, m, rfl, he, h1, rfl⟩)⟩
        | succ k => simpa using k1 k t (by simpa using ht)
theorem io_at : ∀ {as : List Arg} {k i : Nat}, as[k]? = some (.io i) → countIo as ≤ 1 → ioOf as 0 = some (k, i)
  | [], _, _, h, _ => by simp at h
  | .v d :: as, 0, i, h, _ => by simp at h
  | .v d :: as, k + 1, i, h, hc => by
    show ioOf as 1 = _
    rw [ioOf_shift, io_at (as := as) (k := k) (i := i) (by simpa using h) hc]
    rfl
  | .bor d :: as, 0, i, h, _ => by simp at h
  | .bor d :: as, k + 1, i, h, hc => by
    show ioOf as 1 = _
    rw [ioOf_shift, io_at (as := as) (k := k) (i := i) (by simpa using h) hc]
    rfl
  | .io j :: as, 0, i, h, _ => by
    simp at h
    subst h
    rfl
  | .io j :: as, k + 1, i, h, hc => by
    have hc : countIo as + 1 ≤ 1 := hc
    have h : as[k]? = some (.io i) := by simpa using h
    exfalso
    have : ∀ {as : List Arg} {k : Nat}, as[k]? = some (.io i) → 1 ≤ countIo as := by
      intro as
      induction as with
      | nil => intro k h; simp at h
      | cons a as ih =>
        intro k h
        cases a with
        | v d =>
          cases k with
          | zero => simp at h
          | succ k => exact ih (k := k) (by simpa using h)
        | bor d =>
          cases k with
          | zero => simp at h
          | succ k => exact ih (k := k) (by simpa using h)
        | io j => exact Nat.le_add_left 1 _
    have := this h
    omega
theorem at_io : ∀ {as : List Arg} {k i k0 : Nat}, ioOf as k0 = some (k, i) → ∃ j, k = k0 + j ∧ as[j]? = some (.io i)
  | [], _, _, _, h => by cases h
  | .v d :: as, k, i, k0, h => by
    obtain ⟨j, h1, h2⟩ := at_io (as := as) (k0 := k0 + 1) h
    exact ⟨j + 1, by omega, by simpa using h2⟩
  | .bor d :: as, k, i, k0, h => by
    obtain ⟨j, h1, h2⟩ := at_io (as := as) (k0 := k0 + 1) h
    exact ⟨j + 1, by omega, by simpa using h2⟩
  | .io j :: as, k, i, k0, h => by
    cases h
    exact ⟨0, rfl, rfl⟩
theorem bor_slot {e : Env} : ∀ {as : List Arg} {s : Env} {j : Nat}, slotsOf e as = some s → j ∈ borsOf as → ∃ p q m, e[j]? = some (.o p q m)
  | [], _, _, _, h => by cases h
  | .v d :: as, _, j, h, hj => by
    obtain ⟨s', h3, h4⟩ := bind1 h
    exact bor_slot h3 hj
  | .io i :: as, s, j, h, hj => by
    have h : (match e[i]? with
      | some (.o _ false m) => (slotsOf e as).bind fun s => some (.o true false m :: s)
      | _ => none) = some s := h
    split at h
    · obtain ⟨s', h3, h4⟩ := bind1 h
      exact bor_slot h3 hj
    · cases h
  | .bor i :: as, s, j, h, hj => by
    have h : (match e[i]? with
      | some (.o _ _ m) => (slotsOf e as).bind fun s => some (.v m.toD :: s)
      | _ => none) = some s := h
    split at h
    · rename_i p q m he
      obtain ⟨s', h3, h4⟩ := bind1 h
      rcases List.mem_cons.mp hj with z | z
      · subst z; exact ⟨p, q, m, he⟩
      · exact bor_slot h3 z
    · cases h
theorem bor_mem : ∀ {as : List Arg} {k i : Nat}, as[k]? = some (.bor i) → i ∈ borsOf as
  | [], _, _, h => by simp at h
  | .v _ :: as, 0, _, h => by simp at h
  | .io _ :: as, 0, _, h => by simp at h
  | .bor j :: as, 0, i, h => by
    simp at h
    subst h
    exact List.mem_cons_self
  | .v _ :: as, k + 1, i, h => bor_mem (as := as) (k := k) (by simpa using h)
  | .io _ :: as, k + 1, i, h => bor_mem (as := as) (k := k) (by simpa using h)
  | .bor j :: as, k + 1, i, h => List.mem_cons_of_mem _ (bor_mem (as := as) (k := k) (by simpa using h))
/-- the addresses that are only looked at -/
def borS (σ : L2.St) (as : List Arg) (a : Addr) : Prop := ∃ i, i ∈ borsOf as ∧ σ[i]? = some (some (.ref a))
open Classical in
noncomputable def frzB (B H : Hp) (S : Addr → Prop) : Hp := fun b => if S b then H b else B b
open Classical in
noncomputable def cutB (B : Hp) (S : Addr → Prop) : Hp := fun b => if S b then none else B b
theorem frzB_up {B H : Hp} {S : Addr → Prop} (h : Same B H) : Same B (frzB B H S) := fun a u e => by
  unfold frzB
  split
  · exact h a u e
  · exact e
theorem frzB_bh {B H : Hp} {S : Addr → Prop} (h : Same B H) : Same (frzB B H S) H := fun a u e => by
  unfold frzB at e
  split at e
  · exact e
  · exact h a u e
theorem frzB_in {B H : Hp} {S : Addr → Prop} {a : Addr} (h : S a) : frzB B H S a = H a := if_pos h
theorem frzB_out {B H : Hp} {S : Addr → Prop} {a : Addr} (h : ¬ S a) : frzB B H S a = B a := if_neg h
theorem frzB_none {B H : Hp} {σ : L2.St} : frzB B H (borS σ []) = B := by
  funext a
  exact frzB_out fun ⟨i, h, _⟩ => by cases h
/-- a thing without lists and dicts needs none of those -/
def Thin (B B' : Hp) : Prop := ∀ b u, B b = some u → (∀ vs, u ≠ .lst vs) → (∀ kvs, u ≠ .dK kvs) → B' b = some u
theorem and_l {a b : Bool} (h : (a && b) = true) : a = true := (Bool.and_eq_true _ _ ▸ h).1
theorem and_r {a b : Bool} (h : (a && b) = true) : b = true := (Bool.and_eq_true _ _ ▸ h).2
section
variable {K : PySem.W.Frag} {B B' : Hp} (th : Thin B B')
include th
mutual
theorem Rep.thin : ∀ {v : V} {d : D}, Rep K B v d → nol d = true → Rep K B' v d
  | _, _, .non, _ => .non
  | _, _, .bl b, _ => .bl b
  | _, _, .int i, _ => .int i
  | _, _, .str x, _ => .str x
  | _, _, .ty n, _ => .ty n
  | _, _, .cls a, _ => .cls a
  | _, _, .lst h a, n => nomatch n
  | _, _, .dct h a, n => nomatch n
  | _, _, .fl h a, n => nomatch n
  | _, _, .tup h a, n => by
    refine .tup ?_ (RepA.thin a n)
    rcases h with (h | ⟨o, h⟩) | h
    · exact .inl (.inl (th _ _ h (fun _ z => nomatch z) (fun _ z => nomatch z)))
    · exact .inl (.inr ⟨o, th _ _ h (fun _ z => nomatch z) (fun _ z => nomatch z)⟩)
    · exact .inr h
  | _, _, .obj h c a, n => .obj (th _ _ h (fun _ z => nomatch z) (fun _ z => nomatch z)) c (RepF.thin a n)
  | _, _, .exn h c x a, n => .exn (th _ _ h (fun _ z => nomatch z) (fun _ z => nomatch z)) c (x.mono fun a o q n1 n2 => th a o q n1 n2) (RepF.thin a n)
theorem RepA.thin : ∀ {v : List V} {d : List D}, RepA K B v d → nol.nolA d = true → RepA K B' v d
  | _, _, .nil, _ => .nil
  | _, _, .cons h t, n => .cons (Rep.thin h (and_l n)) (RepA.thin t (and_r n))
theorem RepF.thin : ∀ {v : List (Str × V)} {d : List (Str × D)}, RepF K B v d → nol.nolF d = true → RepF K B' v d
  | _, _, .nil, _ => .nil
  | _, _, .cons h t, n => .cons (Rep.thin h (and_l n)) (RepF.thin t (and_r n))
end
theorem RepK.thin : ∀ {v : List (Key × V)} {d : List (Key × D)}, RepK K B v d → nolK d = true → RepK K B' v d
  | _, _, .nil, _ => .nil
  | _, _, .cons h t, n => .cons (Rep.thin th h (and_l n)) (RepK.thin t (and_r n))
theorem MOk.thin {m : M} {o : HO} (h : MOk K B m o) (n : nolM m = true) : MOk K B' m o := by
  cases m with
  | l ds => obtain ⟨vs, h1, h2⟩ := h; exact ⟨vs, h1, h2.thin th n⟩
  | d ds => obtain ⟨vs, h1, h2⟩ := h; exact ⟨vs, h1, h2.thin th n⟩
end

theorem owned_iff {σ : L2.St} {e : Env} {i : Nat} {p q : Bool} {m m' : M} (h : e[i]? = some (.o p q m)) (a : Addr) : Owned σ (e.set i (.o p q m')) a ↔ Owned σ e a := by
  have l : i < e.length := (List.getElem?_eq_some_iff.mp h).1
  constructor
  · rintro ⟨j, io, lk, m1, h1, h2⟩
    by_cases z : i = j
    · subst z
      exact ⟨i, p, q, m, h, h2⟩
    · rw [List.getElem?_set_ne z] at h1
      exact ⟨j, io, lk, m1, h1, h2⟩
  · rintro ⟨j, io, lk, m1, h1, h2⟩
    by_cases z : i = j
    · subst z
      exact ⟨i, p, q, m', List.getElem?_set_self l, h2⟩
    · exact ⟨j, io, lk, m1, by rw [List.getElem?_set_ne z]; exact h1, h2⟩
/-- an own thing turns: its place alone -/
theorem Rel.turn {G : Gm} {B H B' H' : Hp} {σ : L2.St} {e : Env} {i : Nat} {p q : Bool} {m m' : M} {a : Addr} {o : HO} (R : Rel G B H σ e) (h : e[i]? = some (.o p q m)) (hσ : σ[i]? = some (some (.ref a)))
    (eb : Same B B') (bh : Same B' H') (dm : ∀ b, H' b = none → H b = none) (fr : ∀ b u, H b = some u → b ≠ a → H' b = some u) (bf : ∀ b u, H b = some u → b ≠ a → B b = none → B' b = none)
    (ho : H' a = some o) (mo : MOk G.K B' m' o) (ba : B' a = none) : Rel G B' H' σ (e.set i (.o p q m')) := by
  obtain ⟨a', o', e1, e2, e3, e4, e5, e6⟩ := R.sl i _ h
  rw [hσ] at e1
  cases e1
  have l : i < e.length := (List.getElem?_eq_some_iff.mp h).1
  have na : ∀ b u, G.H0 b = some u → ¬ G.ino b → b ≠ a := fun b u h1 h2 z => by
    subst z
    rcases e5 with e5 | e5
    · rw [e5] at h1; cases h1
    · exact h2 e5
  have f1 : ∀ (j : Nat) (p1 q1 : Bool) (m1 : M), (e.set i (Slot.o p q m'))[j]? = some (.o p1 q1 m1) → ∃ p2 q2 m2, e[j]? = some (.o p2 q2 m2) := fun j p1 q1 m1 hh => by
    by_cases w : i = j
    · subst w
      exact ⟨p, q, m, h⟩
    · rw [List.getElem?_set_ne w] at hh
      exact ⟨p1, q1, m1, hh⟩
  refine ⟨by rw [List.length_set]; exact R.len, R.b0.trans eb, bh, fun b z => R.fd b (dm b z), fun b z => R.dm b (dm b z), fun b u h1 h2 => fr b u (R.fr b u h1 h2) (na b u h1 h2), fun b u h1 h2 h3 => bf b u (R.fr b u h1 h2) (na b u h1 h2) (R.bf b u h1 h2 h3), fun j s hs => ?_, fun j k p1 q1 p2 q2 m1 m2 b h1 h2 g1 g2 => ?_⟩
  · by_cases w : i = j
    · subst w
      rw [List.getElem?_set_self l] at hs
      cases hs
      exact ⟨a, o, hσ, ho, mo, ba, e5, e6⟩
    · rw [List.getElem?_set_ne w] at hs
      have w2 := R.sl j s hs
      cases s with
      | u => trivial
      | v d =>
        obtain ⟨v, q1, q2⟩ := w2
        exact ⟨v, q1, q2.mono eb⟩
      | o io lk m1 =>
        obtain ⟨b, u, q1, q2, q3, q4, q5, q6⟩ := w2
        have nb : b ≠ a := fun z => by
          subst z
          exact w (R.ne i j _ _ _ _ _ _ b h hs hσ q1)
        exact ⟨b, u, q1, fr b u q2 nb, q3.mono eb, bf b u q2 nb q4, q5, q6⟩
  · obtain ⟨_, _, _, k1⟩ := f1 _ _ _ _ h1
    obtain ⟨_, _, _, k2⟩ := f1 _ _ _ _ h2
    exact R.ne j k _ _ _ _ _ _ b k1 k2 g1 g2
/-- the caller's state behind the call -/
theorem Rel.called {G : Gm} {B H B' H' : Hp} {σ : L2.St} {e : Env} {io : Option Nat} {vs : List V} {m : Option M} {as : List Arg} {s : Env} {ws : List V} (R : Rel G B H σ e) (ha : vA.rp G B H σ e as ws) (hs : slotsOf e as = some s) (hc : countIo as ≤ 1) (hio : (ioOf as 0).map (·.1) = io)
    (hv : ∀ (k : Nat) (v : V), ws[k]? = some v → vs[k]? = some v) (A : After G.K io B H vs m B' H') : Rel G B' H' σ (back1 e (ioOf as 0) m) ∧ ∀ a, Owned σ (back1 e (ioOf as 0) m) a ↔ Owned σ e a := by
  obtain ⟨l1, l2, ks⟩ := slots_at (H := H) ha hs
  cases hi : ioOf as 0 with
  | none =>
    rw [hi] at hio
    have hio : io = none := hio.symm
    subst hio
    have n : ∀ a, ¬ inoOf none vs a := fun a z => by obtain ⟨k, z, _⟩ := z; cases z
    exact ⟨R.grow ⟨A.eb, fun b u h => A.fr b u h (n b), A.bh, fun b u h1 h2 => A.bf b u h1 (n b) h2⟩, fun a => Iff.rfl⟩
  | some p =>
    obtain ⟨k, i⟩ := p
    rw [hi] at hio
    have hio : io = some k := hio.symm
    subst hio
    obtain ⟨j, hj, hk⟩ := at_io hi
    have hj : k = j := by omega
    subst hj
    have lk : k < s.length := by
      have := (List.getElem?_eq_some_iff.mp hk).1
      omega
    obtain ⟨v, hv1, hor⟩ := ks k _ (List.getElem?_eq_getElem lk)
    obtain ⟨a, o, m', g1, g2, g3, g4, g5⟩ := A.io k rfl
    have g1' := hv k v hv1
    rw [g1] at g1'
    cases g1'
    rcases hor with ⟨d, _, _, z⟩ | ⟨i', p, m0, _, he, hσ, z⟩ | ⟨i', p, q, m0, _, he, hσ, z⟩
    · rw [hk] at z; cases z
    rotate_left
    · rw [hk] at z; cases z
    · rw [hk] at z
      cases z
      subst g2
      have pb : putBack e i m' = e.set i (.o p false m') := by
        unfold putBack
        rw [he]
      have b1 : back1 e (some (k, i)) (some m') = e.set i (.o p false m') := pb
      have na : ∀ b, b ≠ a → ¬ inoOf (some k) vs b := fun b nb z => by
        obtain ⟨k', z1, z2⟩ := z
        cases z1
        rw [g1] at z2
        cases z2
        exact nb rfl
      rw [b1]
      exact ⟨R.turn he hσ A.eb A.bh A.dm (fun b u h1 h2 => A.fr b u h1 (na b h2)) (fun b u h1 h2 h3 => A.bf b u h1 (na b h2) h3) g3 g4 g5, owned_iff he⟩
/-- what the callee begins with -/
theorem Rel.callee {G : Gm} {B H : Hp} {σ : L2.St} {e : Env} {io : Option Nat} {as : List Arg} {s : Env} {vs dvs : List V} {ds : List D} (R : Rel G B H σ e) (ha : vA.rp G B H σ e as vs) (hs : slotsOf e as = some s) (hc : countIo as ≤ 1) (hio : (ioOf as 0).map (·.1) = io) (hd : ∀ B, RepA G.K B dvs ds) (hbo : ∀ i, i ∈ borsOf as → (ioOf as 0).map (·.2) ≠ some i) :
    Rel (G0 G.K io (frzB B H (borS σ as)) H (vs ++ dvs)) (frzB B H (borS σ as)) H ((vs ++ dvs).map some) (s ++ ds.map Slot.v) ∧ shape io (s ++ ds.map Slot.v) := by
  have sB : Same B (frzB B H (borS σ as)) := frzB_up R.bh
  obtain ⟨l1, l2, ks⟩ := slots_at (H := H) ha hs
  have ld := (hd B).len
  have iok : ∀ (k : Nat) (p q : Bool) (m : M), (s ++ ds.map Slot.v)[k]? = some (.o p q m) → io = some k ∧ p = true ∧ q = false ∧ ∃ (i : Nat) (p0 : Bool) (v : V), e[i]? = some (.o p0 false m) ∧ σ[i]? = some (some v) ∧ (vs ++ dvs)[k]? = some v ∧ k < vs.length ∧ (ioOf as 0).map (·.2) = some i := fun k p q m h => by
    by_cases z : k < s.length
    · rw [List.getElem?_append_left z] at h
      obtain ⟨v, hv, hor⟩ := ks k _ h
      rcases hor with ⟨d, z1, _⟩ | ⟨i, p0, m0, z1, z2, z3, z4⟩ | ⟨i, p0, q0, m0, z1, _⟩
      · cases z1
      · cases z1
        have := io_at z4 hc
        rw [this] at hio
        exact ⟨hio.symm, rfl, rfl, i, p0, v, z2, z3, by rw [List.getElem?_append_left (by omega)]; exact hv, by omega, by rw [this]; rfl⟩
      · cases z1
    · rw [List.getElem?_append_right (by omega), List.getElem?_map] at h
      cases hh : ds[k - s.length]? with
      | none => rw [hh] at h; cases h
      | some d => rw [hh] at h; cases h
  refine ⟨⟨by simp [l1, ld], Same.refl _, frzB_bh R.bh, fun _ h => h, fun _ h => h, fun _ _ h _ => h, fun _ _ _ _ h => h, fun k t ht => ?_, fun j k p q p' q' m m' a h1 h2 _ _ => ?_⟩, fun k t ht => ?_⟩
  · cases t with
    | u => trivial
    | v d =>
      by_cases z : k < s.length
      · rw [List.getElem?_append_left z] at ht
        obtain ⟨v, hv, hor⟩ := ks k _ ht
        rcases hor with ⟨d', z1, z2, _⟩ | ⟨i, p0, m0, z1, _⟩ | ⟨i, p0, q0, m0, z1, z2, z3, z4⟩
        · cases z1
          refine ⟨v, ?_, z2.mono sB⟩
          rw [List.getElem?_map, List.getElem?_append_left (by omega), hv]
          rfl
        · cases z1
        · cases z1
          obtain ⟨a, o, e1, e2, e3, e4, e5, e6⟩ := R.sl i _ z2
          rw [z3] at e1
          cases e1
          refine ⟨.ref a, ?_, MOk.rep ((frzB_in ⟨i, bor_mem z4, z3⟩).trans e2) (e3.mono sB)⟩
          rw [List.getElem?_map, List.getElem?_append_left (by omega), hv]
          rfl
      · rw [List.getElem?_append_right (by omega), List.getElem?_map] at ht
        cases hh : ds[k - s.length]? with
        | none => rw [hh] at ht; cases ht
        | some d' =>
          rw [hh] at ht
          cases ht
          obtain ⟨u, hu, ru⟩ := (hd B).get hh
          refine ⟨u, ?_, ru.mono sB⟩
          rw [List.getElem?_map, List.getElem?_append_right (by omega), ← l1, hu]
          rfl
    | o p q m =>
      obtain ⟨h1, h2, h3, i, p0, v, h4, h5, h6, h7, h8⟩ := iok k p q m ht
      obtain ⟨a, o, e1, e2, e3, e4, e5, e6⟩ := R.sl i _ h4
      rw [h5] at e1
      cases e1
      subst h2
      have out : ¬ borS σ as a := fun ⟨j, y1, y2⟩ => by
        obtain ⟨p1, q1, m1, y3⟩ := bor_slot hs y1
        have := R.ne i j _ _ _ _ _ _ a h4 y3 h5 y2
        subst this
        exact hbo i y1 h8
      refine ⟨a, o, by rw [List.getElem?_map, h6]; rfl, e2, e3.mono sB, (frzB_out out).trans e4, .inr ⟨k, h1, h6⟩, ?_⟩
      rw [if_pos rfl]
      show (if io = some k then _ else _) = _
      rw [if_pos h1, h6]
  · obtain ⟨z1, _⟩ := iok _ _ _ _ h1
    obtain ⟨z2, _⟩ := iok _ _ _ _ h2
    rw [z1] at z2
    cases z2
    rfl
  · cases t with
    | u =>
      exfalso
      by_cases z : k < s.length
      · rw [List.getElem?_append_left z] at ht
        obtain ⟨v, hv, hor⟩ := ks k _ ht
        rcases hor with ⟨d', z1, z2, _⟩ | ⟨i, p0, m0, z1, _⟩ | ⟨i, p0, q0, m0, z1, _⟩
        · cases z1
        · cases z1
        · cases z1
      · rw [List.getElem?_append_right (by omega), List.getElem?_map] at ht
        cases hh : ds[k - s.length]? with
        | none => rw [hh] at ht; cases ht
        | some d' => rw [hh] at ht; cases ht
    | v d =>
      intro hk
      by_cases z : k < s.length
      · rw [List.getElem?_append_left z] at ht
        obtain ⟨v, hv, hor⟩ := ks k _ ht
        rcases hor with ⟨d', z1, z2, z3⟩ | ⟨i, p0, m0, z1, _⟩ | ⟨i, p0, q0, m0, z1, z2, z2', z3⟩
        · rw [hk] at hio
          cases hi : ioOf as 0 with
          | none => rw [hi] at hio; cases hio
          | some pp =>
            obtain ⟨k', i'⟩ := pp
            rw [hi] at hio
            have hkk : k' = k := Option.some.inj hio
            obtain ⟨j, hj, hk2⟩ := at_io hi
            have : j = k := by omega
            subst this
            rw [z3] at hk2
            cases hk2
        · cases z1
        · rw [hk] at hio
          cases hi : ioOf as 0 with
          | none => rw [hi] at hio; cases hio
          | some pp =>
            obtain ⟨k', i'⟩ := pp
            rw [hi] at hio
            have hkk : k' = k := Option.some.inj hio
            obtain ⟨j, hj, hk2⟩ := at_io hi
            have : j = k := by omega
            subst this
            rw [z3] at hk2
            cases hk2
      · rw [hk] at hio
        cases hi : ioOf as 0 with
        | none => rw [hi] at hio; cases hio
        | some pp =>
          obtain ⟨k', i'⟩ := pp
          rw [hi] at hio
          have hkk : k' = k := Option.some.inj hio
          obtain ⟨j, hj, hk2⟩ := at_io hi
          have := (List.getElem?_eq_some_iff.mp hk2).1
          omega
    | o p q m =>
      obtain ⟨h1, h2, h3, _⟩ := iok k p q m ht
      exact ⟨h1, h2, h3⟩
theorem OutOk.ret {G : Gm} {B H B' H' : Hp} {σ : L2.St} {e e' : Env} {x : RV} {v : V} (R : Rel G B H σ e) (ho : ∀ a, Owned σ e' a → Owned σ e a) (h : OutOk G.K H B' H' x v) : RepR G B' H' σ e' x v := by
  cases x with
  | v d => exact h
  | b i => exact h.elim
  | m m =>
    obtain ⟨a, o, e1, e2, e3, e4, e5⟩ := h
    refine ⟨a, o, e1, e3, e4, e5, R.fd a e2, R.dm a e2, fun q => ?_⟩
    obtain ⟨_, q, _⟩ := R.owned (ho a q)
    rw [e2] at q; cases q
theorem After.cut {K : PySem.W.Frag} {io : Option Nat} {B H B' H' : Hp} {vs : List V} {m : Option M} {S : Addr → Prop} (R : Same B H) (A : After K io (frzB B H S) H vs m B' H') (hS : ∀ a, S a → B a = none ∧ ∃ o, H a = some o ∧ ((∃ vs, o = .lst vs) ∨ ∃ kvs, o = .dK kvs)) (hm : nolO m = true) :
    After K io B H vs m (cutB B' S) H' ∧ Thin B' (cutB B' S) := by
  have th : Thin B' (cutB B' S) := fun b u hb n1 n2 => by
    unfold cutB
    split
    · rename_i z
      obtain ⟨_, o, h1, h2⟩ := hS b z
      have := A.eb b o ((frzB_in z).trans h1)
      rw [hb] at this
      cases this
      rcases h2 with ⟨vs, h2⟩ | ⟨vs, h2⟩
      · exact (n1 vs h2).elim
      · exact (n2 vs h2).elim
    · exact hb
  have co : ∀ {b : Addr}, B' b = none → cutB B' S b = none := fun {b} h => by
    unfold cutB
    split
    · rfl
    · exact h
  refine ⟨⟨fun a u h => ?_, fun a u h => ?_, A.dm, A.fr, fun a o h n z => ?_, fun k hk => ?_⟩, th⟩
  · unfold cutB
    split
    · rename_i z
      rw [(hS a z).1] at h
      cases h
    · rename_i z
      exact A.eb a u ((frzB_out z).trans h)
  · unfold cutB at h
    split at h
    · cases h
    · exact A.bh a u h
  · by_cases q : S a
    · exact if_pos q
    · exact co (A.bf a o h n ((frzB_out q).trans z))
  · obtain ⟨a, o, m', h1, h2, h3, h4, h5⟩ := A.io k hk
    subst h2
    exact ⟨a, o, m', h1, rfl, h3, h4.thin th hm, co h5⟩
theorem OutOk.cut {K : PySem.W.Frag} {H B' H' B2 : Hp} {x : RV} {v : V} (th : Thin B' B2) (co : ∀ b, B' b = none → B2 b = none) (h : OutOk K H B' H' x v) (n : nolR x = true) : OutOk K H B2 H' x v := by
  cases x with
  | v d => exact Rep.thin th h n
  | b i => exact h.elim
  | m m =>
    obtain ⟨a, o, e1, e2, e3, e4, e5⟩ := h
    exact ⟨a, o, e1, e2, e3, e4.thin th n, co a e5⟩
theorem RepX.cut {K : PySem.W.Frag} {B' B2 : Hp} {x : EX} {cls : Value} {d : Option Addr} (th : Thin B' B2) (h : RepX K B' x cls d) (n : nolX x = true) : RepX K B2 x cls d := by
  obtain ⟨C, vs, h1, h2, h3, h4⟩ := h
  exact ⟨C, vs, h1, h2, h3.mono fun a o q n1 n2 => th a o q n1 n2, h4.thin th n⟩
theorem borS_own {G : Gm} {B H : Hp} {σ : L2.St} {e s : Env} {as : List Arg} (R : Rel G B H σ e) (hs : slotsOf e as = some s) : ∀ a, borS σ as a → B a = none ∧ ∃ o, H a = some o ∧ ((∃ vs, o = .lst vs) ∨ ∃ kvs, o = .dK kvs) := fun a ⟨i, h1, h2⟩ => by
  obtain ⟨p, q, m, h3⟩ := bor_slot hs h1
  obtain ⟨a', o, e1, e2, e3, e4, e5, e6⟩ := R.sl i _ h3
  rw [h2] at e1
  cases e1
  refine ⟨e4, o, e2, ?_⟩
  cases m with
  | l ds => obtain ⟨vs, z, _⟩ := e3; exact .inl ⟨vs, z⟩
  | d ds => obtain ⟨vs, z, _⟩ := e3; exact .inr ⟨vs, z⟩
/-- behind the call: what was only looked at is as it was -/
theorem bor_done {K : PySem.W.Frag} {G : Gm} {io : Option Nat} {B H B' H' : Hp} {σ : L2.St} {e s : Env} {as : List Arg} {vs : List V} {m : Option M} {r : Bool} (R : Rel G B H σ e) (hs : slotsOf e as = some s) (A : After K io (frzB B H (borS σ as)) H vs m B' H') (hb : borOk as r m = true) :
    ∃ B2, After K io B H vs m B2 H' ∧ (∀ b, B' b = none → B2 b = none) ∧ ((r = true ∧ Thin B' B2) ∨ B2 = B') := by
  unfold borOk at hb
  rw [Bool.or_eq_true] at hb
  rcases hb with hb | hb
  · have he : borsOf as = [] := List.isEmpty_iff.mp hb
    have : frzB B H (borS σ as) = B := by
      funext a
      exact frzB_out fun ⟨i, h, _⟩ => by rw [he] at h; cases h
    rw [this] at A
    exact ⟨B', A, fun _ h => h, .inr rfl⟩
  · rw [Bool.and_eq_true, Bool.and_eq_true] at hb
    obtain ⟨A2, th⟩ := After.cut R.bh A (borS_own R hs) hb.2
    refine ⟨_, A2, fun b h => ?_, .inl ⟨hb.1.2, th⟩⟩
    unfold cutB
    split
    · rfl
    · exact h
theorem bor_apart {as : List Arg} {r : Bool} {m : Option M} (hb : borOk as r m = true) : ∀ i, i ∈ borsOf as → (ioOf as 0).map (·.2) ≠ some i := fun i hi => by
  unfold borOk at hb
  rw [Bool.or_eq_true] at hb
  rcases hb with hb | hb
  · rw [List.isEmpty_iff.mp hb] at hi
    cases hi
  · rw [Bool.and_eq_true, Bool.and_eq_true] at hb
    have := List.all_eq_true.mp hb.1.1 i hi
    exact of_decide_eq_true this
theorem de_call {x : Str} {p pos : Pos} {a : Expr} {es : List Expr} {k n : Nat} {ds : List D} {io : Option Nat} {F : Env → Ret} {fs : List (AK × (Env → Res RV))} (D0 : Def X.prog X.w X.K X.mg X.base x k n ds io F) (hgu : X.A.guards = some []) (hr : Room k X.A) (tk : Takes X W) (hg : Gl X x) (ha : DG X W (a :: es) (eArgs fs))
    (hdb : (x == ("__debug__" : Str)) = false := by decide) (he : starEach (a :: es) X.env = (false, eval a X.env) :: starEach es X.env := by rfl) (hpl : (backTo pos (starEach es X.env)).any (·.1) = false := by rfl) :
    DE X W (.Call (.Name x p) (a :: es) [] pos) (eCall F n io ds fs) := by
  obtain ⟨f, fd, ps, us, dvs, hm, hk, hb, hd, hds, ok⟩ := D0
  refine PE.weak (pe_callG ok hgu hr hg hm hk hb hd (passAt tk) ha hdb he hpl) fun σ H Q ⟨G, B, e, hK, R, q⟩ => ?_
  refine ⟨G, B, e, hK, R, post.bind q fun as e1 vs H1 B1 R1 P1 q => ?_⟩
  have hds' : ∀ B', RepA (G.at B H (Owned σ e)).K B' dvs ds := fun B' => show RepA G.K B' dvs ds from hK.symm ▸ hds B'
  have q : post vR W G B H σ e Q (match slotsOf e1 as with
    | none => .no
    | some s => if countIo as ≤ 1 ∧ (ioOf as 0).map (·.1) = io ∧ s.length + ds.length = n then match F (s ++ ds.map Slot.v) with
      | .ok x m => match x with
        | .b _ => .no
        | _ => if borOk as (nolR x) m = true then .ok x (back1 e1 (ioOf as 0) m) else .no
      | .exc x m => if borOk as (nolX x) m = true then .exc x (back1 e1 (ioOf as 0) m) else .no
      | .no => .no
      else .no) := q
  cases hs : slotsOf e1 as with
  | none => rw [hs] at q; exact q.elim
  | some s =>
    rw [hs] at q
    dsimp only at q
    by_cases hc : countIo as ≤ 1 ∧ (ioOf as 0).map (·.1) = io ∧ s.length + ds.length = n
    case neg => rw [if_neg hc] at q; exact q.elim
    case pos =>
    rw [if_pos hc] at q
    have apart : ∀ i, i ∈ borsOf as → (ioOf as 0).map (·.2) ≠ some i := by
      cases hF : F (s ++ ds.map Slot.v) with
      | no => rw [hF] at q; exact q.elim
      | exc x m =>
        rw [hF] at q
        dsimp only at q
        split at q
        · rename_i z; exact bor_apart z
        · exact q.elim
      | ok x m =>
        rw [hF] at q
        cases x with
        | b _ => exact q.elim
        | v d =>
          dsimp only at q
          split at q
          · rename_i z; exact bor_apart z
          · exact q.elim
        | m d =>
          dsimp only at q
          split at q
          · rename_i z; exact bor_apart z
          · exact q.elim
    obtain ⟨R2, sh⟩ := Rel.callee (dvs := dvs) (ds := ds) R1 P1 hs hc.1 hc.2.1 hds' apart
    obtain ⟨l1, l2, _⟩ := slots_at (H := H1) P1 hs
    have lv : (vs ++ dvs).length = n := by
      have e1 := R2.len
      simp only [List.length_map, List.length_append] at e1 ⊢
      omega
    refine ⟨lv, _, s ++ ds.map Slot.v, hK ▸ R2, sh, ?_⟩
    have app : ∀ (k : Nat) (v : V), vs[k]? = some v → (vs ++ dvs)[k]? = some v := fun k v h => by
      rw [List.getElem?_append_left (List.getElem?_eq_some_iff.mp h).1]
      exact h
    cases hF : F (s ++ ds.map Slot.v) with
    | no => rw [hF] at q; exact q.elim
    | exc x m =>
      rw [hF] at q
      dsimp only at q
      intro cls d B' H' A hx
      split at q
      case isFalse => exact q.elim
      rename_i hb
      obtain ⟨B2, A2, co, hor⟩ := bor_done R1 hs A hb
      obtain ⟨R3, _⟩ := Rel.called (m := m) R1 P1 hs hc.1 hc.2.1 app (hK.symm ▸ A2)
      refine q cls d H' B2 R3 (hK.symm ▸ ?_)
      rcases hor with ⟨z1, z2⟩ | z
      · exact RepX.cut z2 hx z1
      · exact z ▸ hx
    | ok x m =>
      rw [hF] at q
      intro v B' H' A ok
      have fin : post vR W G B H σ e Q (if borOk as (nolR x) m = true then .ok x (back1 e1 (ioOf as 0) m) else .no) → Q v H' := fun q => by
        split at q
        case isFalse => exact q.elim
        rename_i hb
        obtain ⟨B2, A2, co, hor⟩ := bor_done R1 hs A hb
        obtain ⟨R3, ow⟩ := Rel.called (m := m) R1 P1 hs hc.1 hc.2.1 app (hK.symm ▸ A2)
        have ok2 : OutOk G.K H1 B2 H' x v := by
          rcases hor with ⟨z1, z2⟩ | z
          · exact OutOk.cut z2 co (hK.symm ▸ ok) z1
          · exact z ▸ hK.symm ▸ ok
        exact q v H' B2 R3 (OutOk.ret R1 (fun a z => (ow a).mp z) ok2)
      cases x with
      | v d => exact fin q
      | m _ => exact fin q
      | b _ => exact (show False from ok).elim
end
end DL

namespace DL
open PySem L2 PySem.Spec PyProof.Rows

/-! ### statements -/
inductive Fl where
  | nx | rt (x : RV) | bk | ct
def RetK (G : Gm) (B H : Hp) : RV → V → Prop
  | .v d, v => Rep G.K B v d
  | .m m, v => ∃ a o, v = .ref a ∧ H a = some o ∧ MOk G.K B m o ∧ B a = none ∧ G.F a = none
  | .b _, _ => False
def postS (W : WX) (G : Gm) (B : Hp) (D : Ends) : Res Fl → Prop
  | .ok .nx e' => ∀ σ' H' B', Rel G B' H' σ' e' → Same B B' → D.nx σ' H'
  | .ok .bk e' => ∀ σ' H' B', Rel G B' H' σ' e' → Same B B' → D.bk σ' H'
  | .ok .ct e' => ∀ σ' H' B', Rel G B' H' σ' e' → Same B B' → D.ct σ' H'
  | .ok (.rt x) e' => ∀ v σ' H' B', Rel G B' H' σ' e' → Same B B' → RetK G B' H' x v → D.rt v H'
  | .exc x e' => ∀ cls d σ' H' B', Rel G B' H' σ' e' → Same B B' → RepX G.K B' x cls d → W cls d σ' H'
  | .no => False
theorem postS.up {W : WX} {G : Gm} {B B' : Hp} {D : Ends} {r : Res Fl} (s : Same B B') (h : postS W G B D r) : postS W G B' D r := by
  cases r with
  | no => exact h
  | exc x e => exact fun cls d σ' H' B2 R t z => h cls d σ' H' B2 R (s.trans t) z
  | ok fl e =>
    cases fl with
    | nx => exact fun σ' H' B2 R t => h σ' H' B2 R (s.trans t)
    | bk => exact fun σ' H' B2 R t => h σ' H' B2 R (s.trans t)
    | ct => exact fun σ' H' B2 R t => h σ' H' B2 R (s.trans t)
    | rt x => exact fun v σ' H' B2 R t z => h v σ' H' B2 R (s.trans t) z
def rdS (W : WX) (K : PySem.W.Frag) (f : Env → Res Fl) : TS := fun D σ H => ∃ G B e, G.K = K ∧ Rel G B H σ e ∧ postS W G B D (f e)
def DS (X : Cx) (W : WX) (st : Stmt) (f : Env → Res Fl) : Prop := PS X st (rdS W X.K f)
def DSs (X : Cx) (W : WX) (st : List Stmt) (f : Env → Res Fl) : Prop := PSs X st (rdS W X.K f)

def sNx : Env → Res Fl := fun e => .ok .nx e
def sBk : Env → Res Fl := fun e => .ok .bk e
def sCt : Env → Res Fl := fun e => .ok .ct e
def sSeq (f g : Env → Res Fl) : Env → Res Fl := fun e => (f e).bind fun fl e1 => match fl with
  | .nx => g e1
  | fl => .ok fl e1
def sIf (t : Env → Res Bool) (a b : Env → Res Fl) : Env → Res Fl := fun e => (t e).bind fun c e1 => if c = true then a e1 else b e1
def sE (f : Env → Res RV) : Env → Res Fl := fun e => (f e).bind fun _ e1 => .ok .nx e1
/-- a slot that may be stored to -/
def free (e : Env) (i : Nat) : Bool := match e[i]? with
  | some (.o _ true _) => false
  | some _ => true
  | none => false
def assign (i : Nat) (x : RV) (e : Env) : Res Fl := if free e i = true then match x with
    | .m m => .ok .nx (e.set i (.o false false m))
    | x => match toD e x with
      | some (d, e2) => .ok .nx (e2.set i (.v d))
      | none => .no
  else .no
def sSet (i : Nat) (f : Env → Res RV) : Env → Res Fl := fun e => (f e).bind fun x e1 => assign i x e1
def sRet (f : Env → Res RV) : Env → Res Fl := fun e => (f e).bind fun x e1 => match x with
  | .v d => .ok (.rt (.v d)) e1
  | .m m => .ok (.rt (.m m)) e1
  | .b i => match e1[i]? with
    | some (.v d) => .ok (.rt (.v d)) e1
    | some (.o false _ m) => .ok (.rt (.m m)) e1
    | _ => .no
def sRetN : Env → Res Fl := fun e => .ok (.rt (.v .non)) e

section
variable {X : Cx} {W : WX}
theorem dss_nil : DSs X W [] sNx := PSs.weak pss_nil fun D σ H ⟨G, B, e, hK, R, q⟩ => q σ H B R (Same.refl B)
theorem dss_cons {st : Stmt} {rest : List Stmt} {f g : Env → Res Fl} (h1 : DS X W st f) (h2 : DSs X W rest g) : DSs X W (st :: rest) (sSeq f g) := PSs.weak (pss_cons h1 h2) fun D σ H ⟨G, B, e, hK, R, q⟩ => by
  refine ⟨G, B, e, hK, R, ?_⟩
  have q : postS W G B D ((f e).bind fun fl e1 => match fl with
    | .nx => g e1
    | fl => .ok fl e1) := q
  cases hf : f e with
  | no => rw [hf] at q; exact q
  | exc x e1 => rw [hf] at q; exact q
  | ok fl e1 =>
    rw [hf] at q
    cases fl with
    | nx => exact fun σ' H' B' R' t => ⟨G, B', e1, hK, R', q.up t⟩
    | bk => exact q
    | ct => exact q
    | rt x => exact q
theorem dss_one {st : Stmt} {f : Env → Res Fl} (h1 : DS X W st f) : DSs X W [st] f := pss_one h1
theorem ds_pass {pos : Pos} : DS X W (.Pass pos) sNx := PS.weak ps_pass fun D σ H ⟨G, B, e, hK, R, q⟩ => q σ H B R (Same.refl B)
theorem ds_break {pos : Pos} : DS X W (.Break pos) sBk := PS.weak ps_break fun D σ H ⟨G, B, e, hK, R, q⟩ => q σ H B R (Same.refl B)
theorem ds_continue {pos : Pos} : DS X W (.Continue pos) sCt := PS.weak ps_continue fun D σ H ⟨G, B, e, hK, R, q⟩ => q σ H B R (Same.refl B)
theorem ds_doc {x j pos pos'} : DS X W (.Expr (.Constant (.str x) j pos) pos') sNx := PS.weak ps_doc fun D σ H ⟨G, B, e, hK, R, q⟩ => q σ H B R (Same.refl B)
/-- from an expression into a statement -/
theorem postS.of {α β : Type} {V : Vw α β} {G : Gm} {B H : Hp} {σ : L2.St} {e : Env} {D : Ends} {Q1 : β → Hp → Prop} {r : Res α} {k : α → Env → Res Fl} (R : Rel G B H σ e) (h : postS W G B D (r.bind k))
    (w : ∀ x e1 v H1 B1, Rel G B1 H1 σ e1 → Rel (G.at B H (Owned σ e)) B1 H1 σ e1 → V.rp (G.at B H (Owned σ e)) B1 H1 σ e1 x v → postS W G B1 D (k x e1) → Q1 v H1) : post V W G B H σ e Q1 r := by
  cases r with
  | no => exact h
  | exc x e1 => exact fun cls d H' B' R' hx => h cls d σ H' B' (R.back R') R'.b0 hx
  | ok x e1 => exact fun v H1 B1 R1 P1 => w x e1 v H1 B1 (R.back R1) R1 P1 (postS.up R1.b0 h)
theorem ds_expr {a : Expr} {pos : Pos} {f : Env → Res RV} (h : DE X W a f) (hs : swapsWith a none pos.line X.env = pure false := by rfl) : DS X W (.Expr a pos) (sE f) := PS.weak (ps_expr h hs) fun D σ H ⟨G, B, e, hK, R, q⟩ =>
  ⟨G, B, e, hK, R, postS.of R q fun x e1 v H1 B1 R1 _ _ q => q σ H1 B1 R1 (Same.refl B1)⟩
theorem ds_if {c : Expr} {a b : List Stmt} {pos : Pos} {t : Env → Res Bool} {f g : Env → Res Fl} (hc : DT X W c t) (ha : DSs X W a f) (hb : DSs X W b g) : DS X W (.If c a b pos) (sIf t f g) := PS.weak (ps_if hc ha hb) fun D σ H ⟨G, B, e, hK, R, q⟩ => by
  refine ⟨G, B, e, hK, R, postS.of R q fun x e1 v H1 B1 R1 _ P1 q => ?_⟩
  cases P1
  cases x with
  | true => exact ⟨G, B1, e1, hK, R1, q⟩
  | false => exact ⟨G, B1, e1, hK, R1, q⟩

/-! ### stores -/
theorem Rel.put {G : Gm} {B H : Hp} {σ : L2.St} {e : Env} {i : Nat} {s : Slot} {v : V} (R : Rel G B H σ e) (h : i < e.length) (hs : SlOk G B H i s (some (some v))) (hn : ∀ (p q : Bool) (m : M) (a : Addr), s = .o p q m → v = .ref a → ¬ Owned σ e a) : Rel G B H (σ.set i (some v)) (e.set i s) := by
  have l := R.len
  refine ⟨by simp [l], R.b0, R.bh, R.fd, R.dm, R.fr, R.bf, fun j t ht => ?_, fun j k p q p' q' m m' a h1 h2 g1 g2 => ?_⟩
  · by_cases z : i = j
    · subst z
      rw [List.getElem?_set_self h] at ht
      cases ht
      rw [List.getElem?_set_self (by omega)]
      exact hs
    · rw [List.getElem?_set_ne z] at ht ⊢
      exact R.sl j t ht
  · by_cases z : i = j
    · by_cases y : i = k
      · omega
      · subst z
        rw [List.getElem?_set_self h] at h1
        cases h1
        rw [List.getElem?_set_self (by omega)] at g1
        cases g1
        rw [List.getElem?_set_ne y] at h2 g2
        exact absurd ⟨k, p', q', m', h2, g2⟩ (hn p q m a rfl rfl)
    · by_cases y : i = k
      · subst y
        rw [List.getElem?_set_self h] at h2
        cases h2
        rw [List.getElem?_set_self (by omega)] at g2
        cases g2
        rw [List.getElem?_set_ne z] at h1 g1
        exact absurd ⟨j, p, q, m, h1, g1⟩ (hn p' q' m' a rfl rfl)
      · rw [List.getElem?_set_ne z] at h1 g1
        rw [List.getElem?_set_ne y] at h2 g2
        exact R.ne j k p q p' q' m m' a h1 h2 g1 g2
theorem toD_len {e e' : Env} {x : RV} {d : D} (h : toD e x = some (d, e')) : e'.length = e.length := by
  cases x with
  | v d' => cases h; rfl
  | m m => cases h; rfl
  | b i =>
    have h : (match e[i]? with
      | some (.v d) => some (d, e)
      | some (.o false false m) => some (m.toD, e.set i (.v m.toD))
      | _ => none) = some (d, e') := h
    cases he : e[i]? with
    | none => rw [he] at h; cases h
    | some s =>
      rw [he] at h
      cases s with
      | u => cases h
      | v _ => cases h; rfl
      | o p q m =>
        cases p with
        | true => cases h
        | false =>
          cases q with
          | true => cases h
          | false => cases h; exact List.length_set
theorem free_len {e : Env} {i : Nat} (h : free e i = true) : i < e.length := by
  cases he : e[i]? with
  | none => unfold free at h; rw [he] at h; cases h
  | some s => exact (List.getElem?_eq_some_iff.mp he).1
theorem assign_ok {G : Gm} {B H : Hp} {σ : L2.St} {e : Env} {i : Nat} {x : RV} {v : V} {D : Ends} {G' : Gm} (R : Rel G B H σ e) (hG : G' = G ∨ ∃ B' H' e', G' = G.at B' H' (Owned σ e') ∧ Rel G B' H' σ e') (P : RepR G' B H σ e x v) (q : postS W G B D (assign i x e)) : D.nx (σ.set i (some v)) H := by
  have P : RepR G B H σ e x v := by
    rcases hG with rfl | ⟨B', H', e', rfl, R'⟩
    · exact P
    · exact RepR.back R' P
  by_cases hf : free e i = true
  case neg => unfold assign at q; rw [if_neg hf] at q; exact q.elim
  case pos =>
  have l := free_len hf
  unfold assign at q
  rw [if_pos hf] at q
  have other : ∀ y, x = y → postS W G B D (match toD e y with
      | some (d, e2) => .ok .nx (e2.set i (.v d))
      | none => .no) → D.nx (σ.set i (some v)) H := fun y hy q => by
    subst hy
    cases ht : toD e x with
    | none => rw [ht] at q; exact q.elim
    | some p =>
      obtain ⟨d, e2⟩ := p
      rw [ht] at q
      obtain ⟨B2, R2, s2, rp⟩ := Rel.frz R P ht
      exact q _ _ B2 (R2.put (by rw [toD_len ht]; exact l) ⟨v, rfl, rp⟩ fun _ _ _ _ z => nomatch z) s2
  cases x with
  | v d => exact other _ rfl q
  | b j => exact other _ rfl q
  | m m =>
    obtain ⟨a, o, e1, e2, e3, e4, e5, e6, e7⟩ := P
    subst e1
    refine q _ H B (R.put l ⟨a, o, rfl, e2, e3, e4, .inl e6, by simpa using e5⟩ fun p q m' b z1 z2 => ?_) (Same.refl B)
    cases z2
    exact e7
theorem ds_set {i : Nat} {x : Str} {a : Expr} {pos pos' : Pos} {f : Env → Res RV} (hN : X.N.Nodup) (hi : X.N[i]? = some x) (hx : Loc X.env.scope x) (h : DE X W a f) (hs : swapsWith a (some (.Name x pos')) pos.line X.env = pure false := by rfl) (hf : X.fn x = true ∨ X.env.scope.names.lookup x = some .local := by first | exact .inl rfl | exact .inr rfl | assumption) : DS X W (.Assign [.Name x pos'] a pos) (sSet i f) :=
  PS.weak (ps_set hN hi hx h hs hf) fun D σ H ⟨G, B, e, hK, R, q⟩ =>
    ⟨G, B, e, hK, R, postS.of R q fun x e1 v H1 B1 R1 S1 P1 q => assign_ok R1 (.inr ⟨B, H, e, rfl, R⟩) P1 q⟩
theorem ds_ret {a : Expr} {pos : Pos} {f : Env → Res RV} (h : DE X W a f) : DS X W (.Return (some a) pos) (sRet f) := PS.weak (ps_ret h) fun D σ H ⟨G, B, e, hK, R, q⟩ => by
  refine ⟨G, B, e, hK, R, postS.of R q fun x e1 v H1 B1 R1 S1 P1 q => ?_⟩
  have P := RepR.back R P1
  cases x with
  | v d => exact q v σ H1 B1 R1 (Same.refl B1) P
  | m m =>
    obtain ⟨a, o, e1, e2, e3, e4, e5, e6, e7⟩ := P
    exact q v σ H1 B1 R1 (Same.refl B1) ⟨a, o, e1, e2, e3, e4, e5⟩
  | b i =>
    have P : σ[i]? = some (some v) := P
    have q : postS W G B1 D (match e1[i]? with
      | some (.v d) => .ok (.rt (.v d)) e1
      | some (.o false _ m) => .ok (.rt (.m m)) e1
      | _ => .no) := q
    cases he : e1[i]? with
    | none => rw [he] at q; exact q.elim
    | some s =>
      rw [he] at q
      have w := R1.sl i s he
      cases s with
      | u => exact q.elim
      | v d =>
        obtain ⟨v', z1, z2⟩ := w
        rw [P] at z1
        cases z1
        exact q v σ H1 B1 R1 (Same.refl B1) z2
      | o p lk m =>
        cases p with
        | true => exact q.elim
        | false =>
          obtain ⟨a, o, z1, z2, z3, z4, z5, z6⟩ := w
          rw [P] at z1
          cases z1
          exact q _ σ H1 B1 R1 (Same.refl B1) ⟨a, o, rfl, z2, z3, z4, by simpa using z6⟩
theorem ds_retN {pos : Pos} : DS X W (.Return none pos) sRetN := PS.weak ps_retN fun D σ H ⟨G, B, e, hK, R, q⟩ => q .non σ H B R (Same.refl B) .non

/-! ### a def by its body -/
def ioM (io : Option Nat) (e : Env) : Option (Option M) := match io with
  | none => some none
  | some k => match e[k]? with
    | some (.o true false m) => some (some m)
    | _ => none
theorem ioM_ok {io : Option Nat} {e : Env} {m : Option M} (h : ioM io e = some m) : ∀ k, io = some k → ∃ m', m = some m' ∧ e[k]? = some (.o true false m') := fun k hk => by
  subst hk
  have h : (match e[k]? with
    | some (.o true false m) => some (some m)
    | _ => none) = some m := h
  cases he : e[k]? with
  | none => rw [he] at h; cases h
  | some s =>
    rw [he] at h
    cases s with
    | u => cases h
    | v _ => cases h
    | o p q m' =>
      cases p with
      | false => cases h
      | true =>
        cases q with
        | true => cases h
        | false => cases h; exact ⟨m', rfl, rfl⟩
def fin (io : Option Nat) (x : RV) (e : Env) : Ret := match ioM io e with
  | some m => .ok x m
  | none => .no
def finX (io : Option Nat) (x : EX) (e : Env) : Ret := match ioM io e with
  | some m => .exc x m
  | none => .no
def runDef (n : Nat) (io : Option Nat) (b : Env → Res Fl) (args : Env) : Ret :=
  match b (args ++ List.replicate (n - args.length) Slot.u) with
  | .ok .nx e => fin io (.v .non) e
  | .ok (.rt x) e => fin io x e
  | .ok _ _ => .no
  | .exc x e => finX io x e
  | .no => .no
theorem rel_start {K : PySem.W.Frag} {io : Option Nat} {B H : Hp} {vs : List V} {e : Env} (n : Nat) (R : Rel (G0 K io B H vs) B H (vs.map some) e) : Rel (G0 K io B H vs) B H (vs.map some ++ List.replicate n none) (e ++ List.replicate n .u) := by
  have l := R.len
  have f1 : ∀ (j : Nat) (p q : Bool) (m : M), (e ++ List.replicate n Slot.u)[j]? = some (.o p q m) → e[j]? = some (.o p q m) ∧ (vs.map some ++ List.replicate n (none : Option V))[j]? = (vs.map some)[j]? := fun j p q m hh => by
    by_cases z : j < e.length
    · rw [List.getElem?_append_left z] at hh
      exact ⟨hh, List.getElem?_append_left (by omega)⟩
    · rw [List.getElem?_append_right (by omega), List.getElem?_replicate] at hh
      split at hh <;> cases hh
  refine ⟨by simp only [List.length_append, List.length_replicate, l], R.b0, R.bh, R.fd, R.dm, R.fr, R.bf, fun j t ht => ?_, fun j k p q p' q' m m' a h1 h2 g1 g2 => ?_⟩
  · by_cases z : j < e.length
    · rw [List.getElem?_append_left z] at ht
      rw [List.getElem?_append_left (by omega)]
      exact R.sl j t ht
    · rw [List.getElem?_append_right (by omega), List.getElem?_replicate] at ht
      split at ht
      · cases ht; trivial
      · cases ht
  · obtain ⟨a1, a2⟩ := f1 _ _ _ _ h1
    obtain ⟨b1, b2⟩ := f1 _ _ _ _ h2
    rw [a2] at g1
    rw [b2] at g2
    exact R.ne j k p q p' q' m m' a a1 b1 g1 g2
theorem after_of {K : PySem.W.Frag} {io : Option Nat} {B H B' H' : Hp} {vs : List V} {σ' : L2.St} {e' : Env} {m : Option M} (R : Rel (G0 K io B H vs) B' H' σ' e') (hm : ∀ k, io = some k → ∃ m', m = some m' ∧ e'[k]? = some (.o true false m')) : After K io B H vs m B' H' where
  eb := R.b0
  bh := R.bh
  dm := R.dm
  fr := R.fr
  bf := R.bf
  io := fun k hk => by
    obtain ⟨m', h1, h2⟩ := hm k hk
    obtain ⟨a, o, e1, e2, e3, e4, e5, e6⟩ := R.sl k _ h2
    rw [if_pos rfl] at e6
    have e6 : (if io = some k then (match vs[k]? with
      | some (.ref a) => some a
      | _ => none) else none) = some a := e6
    rw [if_pos hk] at e6
    refine ⟨a, o, m', ?_, h1, e2, e3, e4⟩
    split at e6
    · cases e6; assumption
    · cases e6
theorem out_of {K : PySem.W.Frag} {io : Option Nat} {B H B' H' : Hp} {vs : List V} {x : RV} {v : V} (h : RetK (G0 K io B H vs) B' H' x v) : RetR K H B' H' x v := by
  cases x with
  | v d => exact h
  | b i => exact h
  | m m =>
    obtain ⟨a, o, e1, e2, e3, e4, e5⟩ := h
    exact ⟨a, o, e1, e5, e2, e3, e4⟩
end
section
variable {P : Program} {w : World} {K : PySem.W.Frag} {mg : Str → Option Value} {base : Heap}
/-- the wish of a def's body about exceptions -/
def wE (E : XK) : WX := fun cls d _ H => E cls d H
theorem fnG_of {x qual : Str} {st : Stmt} {f : Addr} {fd : FuncData} {N ps : List Str} {k : Nat} {sp : Sp} (F : Fun K x qual st f fd) (S : FnScope N ps (defScope st)) (len : ∀ vs H Q E, sp vs H Q E → vs.length = ps.length)
    (hbody : ∀ (cdv : Value) (A : Around) (outer : List PySem.Env) (s : Shared) (H : Hp) (vs : List V) (Q : VK) (E : XK), A.guards = some [] → Room k (A.deeper (envOfC qual (defScope st) s.heap.objs.size f cdv)) → sp vs H Q E →
      ∃ t, PSs (cxOf (L2.CX P w) P w K mg base N qual (defScope st) f cdv A outer s H E) (defBody st) t ∧ t { nx := fun _ H' => Q .non H', rt := Q } (start N vs) H) : FnG P w K mg base (k + 1) f fd ps sp := by
  obtain ⟨oc, od, kV, doc, pm, an, cdv, ct, osl, rfl, lk, hcd⟩ := F.ex
  refine ⟨len, ?_⟩
  intro A out st0 H ar us vs Q E hgu hr e0 hb rv hsp
  have many := len _ _ _ _ hsp
  have kin0 : K.In st0.heap := e0.mod.kin.keeps fun b o e => (e0.bs b o e).1
  have kinds : ∀ y ∈ ps.zip us, (defScope st).names.lookup y.1 = some .local ∨ ((defScope st).names.lookup y.1 = some .cell ∧ ((cellsFrom (st0.heap.objs.size + 1) (defScope st).names []).lookup y.1).isSome = true) := by
    rintro ⟨n, v⟩ hy
    exact (S.par n (List.of_mem_zip hy).1).imp id fun q => ⟨q, PySem.W.cellsFrom_some _ _ _ (.inl q)⟩
  refine codeAny_call_function hr.depth (kin0 _ _ lk) rfl S.co S.gen rfl (PySem.W.codeRec_of kin0 hcd) (hb _ _ _ _ (wpAny_newFunctionEnv_cells S.kind kinds ?_))
  rintro env rfl st1 laid
  refine ⟨(e0.mod.nolimit.keeps fun b o e => (e0.bs b o e).1).keeps laid.toInCall.keep, codeAny_func ?_⟩
  obtain ⟨t, body, want⟩ := hbody cdv A out st0 H vs Q E hgu (hr.deeper _) hsp
  have I0 : Inv (cxOf (L2.CX P w) P w K mg base N qual (defScope st) f cdv A out st0 H E) [] (start N vs) H st1 := inv_start S hr.hd e0 many rv laid
  refine wpAny_mono (body.run [] st1 (start N vs) H _ I0 want) (fun fl st2 hs => ?_) fun _ _ z => z
  match fl, hs with
  | .ret u, ⟨v, σ2, H2, J, r2, q⟩ => exact ⟨v, H2, J.os, J.bare, J.base, J.hok, r2, q⟩
  | .next, ⟨σ2, H2, J, q⟩ => exact ⟨V.non, H2, J.os, J.bare, J.base, J.hok, rfl, q⟩
  | .brk, ⟨_, _, _, q⟩ => exact q.elim
  | .cont, ⟨_, _, _, q⟩ => exact q.elim
theorem def_ok {x qual : Str} {st : Stmt} {f : Addr} {fd : FuncData} {N ps : List Str} {k : Nat} {io : Option Nat} {b : Env → Res Fl} (F : Fun K x qual st f fd) (S : FnScope N ps (defScope st))
    (hbody : ∀ (cdv : Value) (A : Around) (outer : List PySem.Env) (s : Shared) (H : Hp) (E : XK), A.guards = some [] → Room k (A.deeper (envOfC qual (defScope st) s.heap.objs.size f cdv)) →
      DSs (cxOf (L2.CX P w) P w K mg base N qual (defScope st) f cdv A outer s H E) (wE E) (defBody st) b) : FnG P w K mg base (k + 1) f fd ps (spD K ps.length io (runDef N.length io b)) := by
  refine fnG_of F S (fun vs H Q E h => h.1) fun cdv A outer s H vs Q E hgu hr h => ?_
  obtain ⟨hl, B, e, R, sh, h⟩ := h
  refine ⟨_, hbody cdv A outer s H E hgu hr, ?_⟩
  have l : vs.length = e.length := by simpa using R.len
  have R1 : Rel (G0 K io B H vs) B H (L2.start N vs) (e ++ List.replicate (N.length - vs.length) Slot.u) := rel_start (N.length - vs.length) R
  refine ⟨G0 K io B H vs, B, _, rfl, R1, ?_⟩
  unfold runDef at h
  rw [← l] at h
  have okc : ∀ (x : RV) (e' : Env), (match fin io x e' with
      | .ok x m => ∀ v B' H', After K io B H vs m B' H' → RetR K H B' H' x v → Q v H'
      | .exc x m => ∀ cls d B' H', After K io B H vs m B' H' → RepX K B' x cls d → E cls d H'
      | .no => False) → ∀ v σ' H' B', Rel (G0 K io B H vs) B' H' σ' e' → Same B B' → RetK (G0 K io B H vs) B' H' x v → Q v H' := fun x e' h v σ' H' B' R' _ P => by
    unfold fin at h
    cases hm : ioM io e' with
    | none => rw [hm] at h; exact h.elim
    | some m =>
      rw [hm] at h
      exact h v B' H' (after_of R' (ioM_ok hm)) (out_of P)
  cases hb : b (e ++ List.replicate (N.length - vs.length) Slot.u) with
  | no => rw [hb] at h; exact h
  | exc x e' =>
    rw [hb] at h
    intro cls d σ' H' B' R' _ hx
    dsimp only at h
    unfold finX at h
    cases hm : ioM io e' with
    | none => rw [hm] at h; exact h.elim
    | some m =>
      rw [hm] at h
      exact h cls d B' H' (after_of R' (ioM_ok hm)) hx
  | ok fl e' =>
    rw [hb] at h
    cases fl with
    | nx => exact fun σ' H' B' R' t => okc (.v .non) e' h .non σ' H' B' R' t (show Rep _ _ _ _ from .non)
    | rt x => exact okc x e' h
    | bk => exact h.elim
    | ct => exact h.elim
end
end DL

namespace DL
open PySem L2 PySem.Spec PyProof.Rows

/-! ### targets -/
abbrev Tg := D → Env → Option Env
def tgN (i : Nat) : Tg := fun d e => if free e i = true then some (e.set i (.v d)) else none
def tgs : List Tg → List D → Env → Option Env
  | [], [], e => some e
  | t :: ts, d :: ds, e => (t d e).bind fun e1 => tgs ts ds e1
  | _, _, _ => none
def tgT (ts : List Tg) : Tg := fun d e => match d with
  | .tup ds => tgs ts ds e
  | .lst ds => tgs ts ds e
  | _ => none
/-- only the slots at ix change -/
def Only (ix : List Nat) (σ σ' : L2.St) : Prop := σ'.length = σ.length ∧ ∀ j, j ∉ ix → σ'[j]? = σ[j]?
theorem Only.refl (ix : List Nat) (σ : L2.St) : Only ix σ σ := ⟨rfl, fun _ _ => rfl⟩
theorem Only.trans {ix : List Nat} {σ σ1 σ2 : L2.St} (a : Only ix σ σ1) (b : Only ix σ1 σ2) : Only ix σ σ2 := ⟨b.1.trans a.1, fun j h => (b.2 j h).trans (a.2 j h)⟩
def rdTg (K : PySem.W.Frag) (ix : List Nat) (g : Tg) : TG := fun v σ H Q => ∃ G B e d e', G.K = K ∧ Rel G B H σ e ∧ Rep K B v d ∧ g d e = some e' ∧ ∀ σ', Rel G B H σ' e' → Only ix σ σ' → Q σ' H
def rdTgs (K : PySem.W.Frag) (ix : List Nat) (g : List D → Env → Option Env) : TGs := fun vs σ H Q => ∃ G B e ds e', G.K = K ∧ Rel G B H σ e ∧ RepA K B vs ds ∧ g ds e = some e' ∧ ∀ σ', Rel G B H σ' e' → Only ix σ σ' → Q σ' H
def DTg (X : Cx) (tg : Expr) (ix : List Nat) (g : Tg) : Prop := PG X tg (rdTg X.K ix g)
def DTgs (X : Cx) (ts : List Expr) (ix : List Nat) (g : List D → Env → Option Env) : Prop := PGs X ts (rdTgs X.K ix g)
section
variable {X : Cx} {W : WX}
theorem PG.weak {tg : Expr} {t t' : TG} (h : PG X tg t) (w : ∀ v σ H Q, t' v σ H Q → t v σ H Q) : PG X tg t' := ⟨fun pins s σ H v u Q I r q => h.run pins s σ H v u Q I r (w v σ H Q q)⟩
theorem PG.two {tg : Expr} {t1 t2 t' : TG} (h1 : PG X tg t1) (h2 : PG X tg t2) (w : ∀ v σ H Q, t' v σ H Q → t1 v σ H Q ∨ t2 v σ H Q) : PG X tg t' := ⟨fun pins s σ H v u Q I r q => (w v σ H Q q).elim (h1.run pins s σ H v u Q I r) (h2.run pins s σ H v u Q I r)⟩
theorem PGs.weak {tg : List Expr} {t t' : TGs} (h : PGs X tg t) (w : ∀ v σ H Q, t' v σ H Q → t v σ H Q) : PGs X tg t' := ⟨fun pins s σ H v u Q I r q => h.run pins s σ H v u Q I r (w v σ H Q q)⟩
theorem dtg_name {i : Nat} {x : Str} {pos : Pos} {ix : List Nat} (hN : X.N.Nodup) (hi : X.N[i]? = some x) (hx : Loc X.env.scope x) (hm : i ∈ ix) (hf : X.fn x = true ∨ X.env.scope.names.lookup x = some .local := by first | exact .inl rfl | exact .inr rfl | assumption) : DTg X (.Name x pos) ix (tgN i) :=
  PG.weak (pg_name hN hi hx hf) fun v σ H Q ⟨G, B, e, d, e', hK, R, rp, h, q⟩ => by
    unfold tgN at h
    by_cases hf : free e i = true
    · rw [if_pos hf] at h
      cases h
      refine q _ (R.put (free_len hf) ⟨v, rfl, hK ▸ rp⟩ fun _ _ _ _ z => nomatch z) ⟨List.length_set, fun j hj => ?_⟩
      exact List.getElem?_set_ne fun (z : i = j) => hj (z ▸ hm)
    · rw [if_neg hf] at h; cases h
theorem dtgs_nil {ix : List Nat} : DTgs X [] ix (tgs []) := PGs.weak pgs_nil fun v σ H Q ⟨G, B, e, ds, e', hK, R, rp, h, q⟩ => by
  cases rp with
  | nil =>
    cases h
    exact ⟨rfl, q σ R (Only.refl _ _)⟩
  | cons _ _ => cases h
theorem dtgs_cons {a : Expr} {es : List Expr} {ix : List Nat} {t : Tg} {ts : List Tg} (h1 : DTg X a ix t) (h2 : DTgs X es ix (tgs ts)) (hs : (assignEach (a :: es) X.env).map (·.2) = PySem.assign a X.env :: (assignEach es X.env).map (·.2) := by rfl) : DTgs X (a :: es) ix (tgs (t :: ts)) :=
  PGs.weak (pgs_cons h1 h2 hs) fun v σ H Q ⟨G, B, e, ds, e', hK, R, rp, h, q⟩ => by
    cases rp with
    | nil => cases h
    | cons r rr =>
      obtain ⟨e1, h3, h4⟩ := bind1 h
      exact ⟨_, _, rfl, G, B, e, _, e1, hK, R, r, h3, fun σ' R' o => ⟨G, B, e1, _, e', hK, R', rr, h4, fun σ2 R2 o2 => q σ2 R2 (o.trans o2)⟩⟩
theorem tgs_len : ∀ {ts : List Tg} {ds : List D} {e e' : Env}, tgs ts ds e = some e' → ts.length = ds.length
  | [], [], _, _, _ => rfl
  | t :: ts, d :: ds, e, e', h => by
    obtain ⟨e1, h3, h4⟩ := bind1 h
    exact congrArg (· + 1) (tgs_len h4)
  | [], _ :: _, _, _, h => by cases h
  | _ :: _, [], _, _, h => by cases h
theorem dtg_tup {es : List Expr} {ix : List Nat} {ts : List Tg} {k : Nat} {pos : Pos} (hc : X.calm = true) (h : DTgs X es ix (tgs ts)) (hn : (assignEach es X.env).length = ts.length := by rfl) (hst : (assignEach es X.env).findIdx? (·.1) = none := by rfl) : DTg X (.Tuple es k pos) ix (tgT ts) :=
  PG.two (pg_tup (n := ts.length) hc h hn hst) (pg_unl (n := ts.length) hc h hn hst) fun v σ H Q ⟨G, B, e, d, e', hK, R, rp, h, q⟩ => by
    cases rp with
    | tup hs r =>
      exact .inl ⟨_, _, rfl, sqT_mono R.bh hs, by rw [r.len]; exact (tgs_len h).symm, G, B, e, _, e', hK, R, r, h, q⟩
    | lst hs r =>
      exact .inr ⟨_, _, rfl, SqL.of (R.bh _ _ hs), by rw [r.len]; exact (tgs_len h).symm, G, B, e, _, e', hK, R, r, h, q⟩
    | _ => cases h
/-- a target that is a tuple -/
def sAsg (t : Tg) (f : Env → Res RV) : Env → Res Fl := fun e => (f e).bind fun x e1 => match toD e1 x with
  | some (d, e2) => match t d e2 with
    | some e3 => .ok .nx e3
    | none => .no
  | none => .no
theorem ds_asg {tg a : Expr} {ix : List Nat} {pos : Pos} {f : Env → Res RV} {t : Tg} (h : DE X W a f) (hg : DTg X tg ix t) (hs : swapsWithSole [tg] a pos.line X.env = pure false := by rfl) (hw : swappedStores [tg] a X.env = pure none := by rfl)
    (h1 : (assignEach [tg] X.env).map (·.2) = [PySem.assign tg X.env] := by rfl) : DS X W (.Assign [tg] a pos) (sAsg t f) := PS.weak (ps_asg h hg hs hw h1) fun D σ H ⟨G, B, e, hK, R, q⟩ => by
  refine ⟨G, B, e, hK, R, postS.of R q fun x e1 v H1 B1 R1 S1 P1 q => ?_⟩
  cases ht : toD e1 x with
  | none => rw [ht] at q; exact q.elim
  | some p =>
    obtain ⟨d, e2⟩ := p
    rw [ht] at q
    obtain ⟨B2, R2, s2, rp⟩ := Rel.frz R1 (RepR.back R P1) ht
    dsimp only at q
    cases hh : t d e2 with
    | none => rw [hh] at q; exact q.elim
    | some e3 =>
      rw [hh] at q
      exact ⟨G, B2, e2, d, e3, hK, R2, hK ▸ rp, hh, fun σ' R' o => q σ' H1 B2 R' s2⟩

/-! ### what is walked -/
def Goes (K : PySem.W.Frag) (J : It) (B0 : Hp) (ds : List D) : Prop := ∀ i B H, Same B0 B → Same B H →
  (i < ds.length → J.go i H ∧ ∀ x H', J.yld i H x H' → ∃ B' d, ds[i]? = some d ∧ Grow B H B' H' ∧ Rep K B' x d) ∧ (i = ds.length → J.stop i H)
def vI : Vw (List D) It := ⟨fun G B _ _ _ ds J => Goes G.K J B ds⟩
abbrev rdI := @rd (List D) It vI
def DI (X : Cx) (W : WX) (tg it : Expr) (f : Env → Res (List D)) : Prop := PI X tg it (rdI W X.K f)
theorem PI.weak {tg it : Expr} {t t' : TI} (h : PI X tg it t) (w : ∀ σ H Q, t' σ H Q → t σ H Q) : PI X tg it t' := ⟨fun pins s σ H Q I q => h.run pins s σ H Q I (w σ H Q q)⟩
theorem goes_list {K : PySem.W.Frag} {B0 : Hp} {a : Addr} {vs : List V} {ds : List D} (h : SqL K B0 a vs) (r : RepA K B0 vs ds) : Goes K (Itl K a) B0 ds := fun i B H s1 s2 => by
  have hq : SqL K H a vs := sqL_mono (s1.trans s2) h
  refine ⟨fun l => ?_, fun l => ⟨vs, hq, by rw [r.len, l]; exact Nat.le_refl _⟩⟩
  obtain ⟨u, hu, ru⟩ := r.get (List.getElem?_eq_getElem l)
  refine ⟨⟨vs, u, hq, hu⟩, fun x H' hy => ?_⟩
  obtain ⟨rfl, hy⟩ := hy
  have hx := hy vs hq
  rw [hu] at hx
  cases hx
  exact ⟨B, _, List.getElem?_eq_getElem l, Grow.refl s2, ru.mono s1⟩
theorem goes_tup {K : PySem.W.Frag} {B0 : Hp} {a : Addr} {vs : List V} {ds : List D} (h : SqT K B0 a vs) (r : RepA K B0 vs ds) : Goes K (Itt K a) B0 ds := fun i B H s1 s2 => by
  have hq : SqT K H a vs := sqT_mono (s1.trans s2) h
  refine ⟨fun l => ?_, fun l => ⟨vs, hq, by rw [r.len, l]; exact Nat.le_refl _⟩⟩
  obtain ⟨u, hu, ru⟩ := r.get (List.getElem?_eq_getElem l)
  refine ⟨⟨vs, u, hq, hu⟩, fun x H' hy => ?_⟩
  obtain ⟨rfl, hy⟩ := hy
  have hx := hy vs hq
  rw [hu] at hx
  cases hx
  exact ⟨B, _, List.getElem?_eq_getElem l, Grow.refl s2, ru.mono s1⟩
theorem goes_rng {K : PySem.W.Frag} {B0 : Hp} (lo : Int) (n : Nat) : Goes K (Itr lo n) B0 ((List.range n).map fun i => .int (lo + (i : Nat))) := fun i B H s1 s2 => by
  simp only [List.length_map, List.length_range]
  refine ⟨fun l => ⟨l, fun x H' hy => ?_⟩, fun l => Nat.le_of_eq l.symm⟩
  obtain ⟨rfl, rfl⟩ := hy
  exact ⟨B, .int (lo + i), by simp [l], Grow.refl s2, .int _⟩
/-- a list or a tuple -/
def iSeq (f : Env → Res RV) : Env → Res (List D) := fun e => (f e).bind fun x e1 => match toD e1 x with
  | some (.lst ds, e2) => .ok ds e2
  | some (.tup ds, e2) => .ok ds e2
  | some (.str z, e2) => .ok (z.cps.toList.map fun c => .str ⟨#[c]⟩) e2
  | _ => .no
theorem goes_str {K : PySem.W.Frag} {B0 : Hp} (z : Str) : Goes K (Its z) B0 (z.cps.toList.map fun c => .str ⟨#[c]⟩) := fun i B H s1 s2 => by
  simp only [List.length_map, Array.length_toList]
  refine ⟨fun l => ⟨l, fun x H' hy => ?_⟩, fun l => Nat.le_of_eq l.symm⟩
  obtain ⟨rfl, c, hc, rfl⟩ := hy
  exact ⟨B, .str ⟨#[c]⟩, by rw [List.getElem?_map, Array.getElem?_toList, hc]; rfl, Grow.refl s2, .str _⟩
/-- what is handed in decides which rule serves -/
theorem PI.three {tg it : Expr} {t1 t2 t3 t' : TI} (h1 : PI X tg it t1) (h2 : PI X tg it t2) (h3 : PI X tg it t3) (w : ∀ σ H Q, t' σ H Q → t1 σ H Q ∨ t2 σ H Q ∨ t3 σ H Q) : PI X tg it t' := ⟨fun pins s σ H Q I q => (w σ H Q q).elim (h1.run pins s σ H Q I) fun q => q.elim (h2.run pins s σ H Q I) (h3.run pins s σ H Q I)⟩
theorem di_seq {l tg : Expr} {f : Env → Res RV} (hl : DE X W l f) : DI X W tg l (iSeq f) := PI.three (pi_list hl) (pi_tup hl) (pi_str hl) fun σ H R0 ⟨G, B, e, hK, R, q⟩ => by
  have none1 : ∀ {x : RV} {e1 : Env}, f e = .ok x e1 → toD e1 x = none → False := fun hf ht => by
    unfold iSeq at q
    rw [hf] at q
    have q : post vI W G B H σ e R0 (match toD _ _ with
      | some (.lst ds, e2) => .ok ds e2
      | some (.tup ds, e2) => .ok ds e2
      | some (.str z, e2) => .ok (z.cps.toList.map fun c => .str ⟨#[c]⟩) e2
      | _ => .no) := q
    rw [ht] at q
    exact q
  cases hf : f e with
  | no => unfold iSeq at q; rw [hf] at q; exact q.elim
  | exc x e1 =>
    unfold iSeq at q
    rw [hf] at q
    exact .inl ⟨G, B, e, hK, R, by rw [hf]; exact q⟩
  | ok x e1 =>
    cases ht : toD e1 x with
    | none => exact (none1 hf ht).elim
    | some p =>
      obtain ⟨d, e2⟩ := p
      have q : post vI W G B H σ e R0 (match some (d, e2) with
        | some (.lst ds, e2) => .ok ds e2
        | some (.tup ds, e2) => .ok ds e2
        | some (.str z, e2) => .ok (z.cps.toList.map fun c => .str ⟨#[c]⟩) e2
        | _ => .no) := by
        unfold iSeq at q
        rw [hf] at q
        rw [← ht]
        exact q
      cases d with
      | lst ds =>
        refine .inl ⟨G, B, e, hK, R, ?_⟩
        rw [hf]
        intro v H1 B1 R1 P1
        obtain ⟨B2, R2, s2, rp⟩ := Rel.frz R1 P1 ht
        cases (show Rep G.K B2 v _ from rp) with
        | lst hs r => exact ⟨_, rfl, ⟨_, SqL.of (R2.bh _ _ hs)⟩, hK ▸ q _ H1 B2 R2 (show Goes G.K _ _ _ from goes_list (SqL.of hs) r)⟩
      | tup ds =>
        refine .inr (.inl ⟨G, B, e, hK, R, ?_⟩)
        rw [hf]
        intro v H1 B1 R1 P1
        obtain ⟨B2, R2, s2, rp⟩ := Rel.frz R1 P1 ht
        cases (show Rep G.K B2 v _ from rp) with
        | tup hs r => exact ⟨_, rfl, ⟨_, hK ▸ sqT_mono R2.bh hs⟩, hK ▸ q _ H1 B2 R2 (show Goes G.K _ _ _ from goes_tup hs r)⟩
      | non => exact q.elim
      | bl _ => exact q.elim
      | int _ => exact q.elim
      | str z =>
        refine .inr (.inr ⟨G, B, e, hK, R, ?_⟩)
        rw [hf]
        intro v H1 B1 R1 P1
        obtain ⟨B2, R2, s2, rp⟩ := Rel.frz R1 P1 ht
        cases (show Rep G.K B2 v _ from rp)
        exact ⟨z, rfl, q _ H1 B2 R2 (show Goes G.K _ _ _ from goes_str z)⟩
      | dct _ => exact q.elim
      | obj _ _ => exact q.elim
      | ty _ => exact q.elim
      | cls _ => exact q.elim
      | exn _ _ => exact q.elim
      | fl _ => exact q.elim
/-- range(n), range(a, b) -/
def iRange1 (f : Env → Res RV) : Env → Res (List D) := fun e => (eVs [f] e).bind fun xs e1 => match peeks e1 xs with
  | some [.int n] => if -(2 ^ 62) ≤ n ∧ n < 2 ^ 62 then .ok ((List.range n.toNat).map fun i => .int (0 + (i : Nat))) e1 else .no
  | _ => .no
def iRange2 (f g : Env → Res RV) : Env → Res (List D) := fun e => (eVs [f, g] e).bind fun xs e1 => match peeks e1 xs with
  | some [.int a, .int b] => if -(2 ^ 62) ≤ a ∧ a < 2 ^ 62 ∧ -(2 ^ 62) ≤ b ∧ b < 2 ^ 62 then .ok ((List.range (b - a).toNat).map fun i => .int (a + (i : Nat))) e1 else .no
  | _ => .no
theorem di_range1 {a tg : Expr} {p pos : Pos} {f : Env → Res RV} (hg : Gl X "range") (hm : X.mg "range" = none) (ha : DA X W [a] (eVs [f])) (hs : starEach [a] X.env = [(false, eval a X.env)] := by rfl) : DI X W tg (.Call (.Name "range" p) [a] [] pos) (iRange1 f) :=
  PI.weak (pi_range1 hg hm ha hs) fun σ H R0 ⟨G, B, e, hK, R, q⟩ => by
    refine ⟨G, B, e, hK, R, post.bind q fun xs e1 v H1 B1 R1 P1 q => ?_⟩
    split at q
    · rename_i n hp
      have t := Paired.tops R1 P1 hp
      by_cases z : -(2 ^ 62) ≤ n ∧ n < 2 ^ 62
      · rw [if_pos z] at q
        cases t with
        | cons t tt =>
          cases tt
          exact ⟨n, by rw [t.int], z.1, z.2, q _ H1 B1 R1 (goes_rng 0 n.toNat)⟩
      · rw [if_neg z] at q; exact q.elim
    · exact q.elim
theorem di_range2 {a b tg : Expr} {p pos : Pos} {f g : Env → Res RV} (hg : Gl X "range") (hm : X.mg "range" = none) (ha : DA X W [a, b] (eVs [f, g])) (hs : starEach [a, b] X.env = [(false, eval a X.env), (false, eval b X.env)] := by rfl) (hs2 : starEach [b] X.env = [(false, eval b X.env)] := by rfl) : DI X W tg (.Call (.Name "range" p) [a, b] [] pos) (iRange2 f g) :=
  PI.weak (pi_range2 hg hm ha hs hs2) fun σ H R0 ⟨G, B, e, hK, R, q⟩ => by
    refine ⟨G, B, e, hK, R, post.bind q fun xs e1 v H1 B1 R1 P1 q => ?_⟩
    split at q
    · rename_i n m hp
      have t := Paired.tops R1 P1 hp
      by_cases z : -(2 ^ 62) ≤ n ∧ n < 2 ^ 62 ∧ -(2 ^ 62) ≤ m ∧ m < 2 ^ 62
      · rw [if_pos z] at q
        cases t with
        | cons t tt =>
          cases tt with
          | cons t2 tt =>
            cases tt
            exact ⟨n, m, by rw [t.int, t2.int], z, q _ H1 B1 R1 (goes_rng n (m - n).toNat)⟩
      · rw [if_neg z] at q; exact q.elim
    · exact q.elim

/-! ### for -/
def forL (t : Tg) (b : Env → Res Fl) : List D → Env → Res Fl
  | [], e => .ok .nx e
  | d :: ds, e => match t d e with
    | none => .no
    | some e1 => match b e1 with
      | .ok .nx e2 => forL t b ds e2
      | .ok .ct e2 => forL t b ds e2
      | .ok .bk e2 => .ok .nx e2
      | .ok (.rt x) e2 => .ok (.rt x) e2
      | .exc x e2 => .exc x e2
      | .no => .no
def sFor (t : Tg) (it : Env → Res (List D)) (b : Env → Res Fl) : Env → Res Fl := fun e => (it e).bind fun ds e1 => forL t b ds e1
theorem ds_for {tg it : Expr} {body : List Stmt} {pos : Pos} {ix : List Nat} {t : Tg} {i : Env → Res (List D)} {b : Env → Res Fl} (hp : PassesOwn (model X.prog X.w) X.A X.env X.xe) (hc : X.calm = true) (hi : DI X W tg it i) (hg : DTg X tg ix t) (hb : DSs X W body b) (hs : ∀ v, foldedSetIterable it X.env v = pure v := by intro _; rfl) : DS X W (.For tg it body [] pos) (sFor t i b) :=
  PS.weak (ps_for hp hc hi hg hb hs) fun D σ H ⟨G, B, e, hK, R, q⟩ => by
    refine ⟨G, B, e, hK, R, postS.of R q fun ds e1 J H1 B1 R1 S1 P1 q => ?_⟩
    have P1 : Goes G.K J B1 ds := P1
    refine ⟨fun i m σ H => ∃ B e, Rel G B H σ e ∧ Same B1 B ∧ m + i = ds.length ∧ postS W G B D (forL t b (ds.drop i) e), ⟨ds.length, B1, e1, R1, Same.refl B1, rfl, q⟩, ?_⟩
    rintro i m σ H ⟨B2, e2, R2, s2, hm, q⟩
    obtain ⟨go, st⟩ := P1 i B2 H s2 R2.bh
    by_cases l : i < ds.length
    · refine .inr ⟨(go l).1, fun σ' H' => ∃ B e, Rel G B H' σ' e ∧ Same B1 B ∧ postS W G B D (forL t b (ds.drop (i + 1)) e), fun σ' H' ⟨B3, e3, R3, s3, q3⟩ => ⟨m - 1, by omega, B3, e3, R3, s3, by omega, q3⟩, fun x H' hy => ?_⟩
      obtain ⟨B', d, hd, gr, rp⟩ := (go l).2 x H' hy
      rw [List.drop_eq_getElem_cons l] at q
      have hd' : ds[i] = d := by
        rw [List.getElem?_eq_getElem l] at hd
        exact Option.some.inj hd
      rw [hd'] at q
      have q : postS W G B2 D (match t d e2 with
        | none => .no
        | some e1 => match b e1 with
          | .ok .nx e2 => forL t b (ds.drop (i + 1)) e2
          | .ok .ct e2 => forL t b (ds.drop (i + 1)) e2
          | .ok .bk e2 => .ok .nx e2
          | .ok (.rt x) e2 => .ok (.rt x) e2
          | .exc x e2 => .exc x e2
          | .no => .no) := q
      cases ht : t d e2 with
      | none => rw [ht] at q; exact q.elim
      | some e3 =>
        rw [ht] at q
        refine ⟨G, B', e2, d, e3, hK, R2.grow gr, hK ▸ rp, ht, fun σ2 R3 o => ⟨G, B', e3, hK, R3, ?_⟩⟩
        have q := postS.up gr.eb q
        dsimp only at q
        cases hb : b e3 with
        | no => rw [hb] at q; exact q
        | exc x e4 => rw [hb] at q; exact q
        | ok fl e4 =>
          rw [hb] at q
          cases fl with
          | nx => exact fun σ' H3 B3 R4 s4 => ⟨B3, e4, R4, (s2.trans gr.eb).trans s4, q.up s4⟩
          | ct => exact fun σ' H3 B3 R4 s4 => ⟨B3, e4, R4, (s2.trans gr.eb).trans s4, q.up s4⟩
          | bk => exact q
          | rt x => exact q
    · refine .inl ⟨st (by omega), ?_⟩
      rw [List.drop_eq_nil_of_le (by omega)] at q
      exact q σ H B2 R2 (Same.refl B2)

/-! ### while -/
def whileN (t : Env → Res Bool) (b : Env → Res Fl) : Nat → Env → Res Fl
  | 0, _ => .no
  | n + 1, e => (t e).bind fun c e1 => if c = true then match b e1 with
      | .ok .nx e2 => whileN t b n e2
      | .ok .ct e2 => whileN t b n e2
      | .ok .bk e2 => .ok .nx e2
      | .ok (.rt x) e2 => .ok (.rt x) e2
      | .exc x e2 => .exc x e2
      | .no => .no
    else .ok .nx e1
theorem ds_while {c : Expr} {body : List Stmt} {pos : Pos} {t : Env → Res Bool} {b : Env → Res Fl} (n : Nat) (hp : PassesOwn (model X.prog X.w) X.A X.env X.xe) (ht : DT X W c t) (hb : DSs X W body b) : DS X W (.While c body [] pos) (whileN t b n) :=
  PS.weak (ps_while hp ht hb) fun D σ H ⟨G, B, e, hK, R, q⟩ => by
    refine ⟨fun m σ H => ∃ B e, Rel G B H σ e ∧ postS W G B D (whileN t b m e), ⟨n, B, e, R, q⟩, ?_⟩
    rintro m σ H ⟨B2, e2, R2, q⟩
    cases m with
    | zero => exact q.elim
    | succ m =>
      refine ⟨G, B2, e2, hK, R2, postS.of R2 q fun c e3 v H3 B3 R3 S3 P3 q => ?_⟩
      cases P3
      cases c with
      | false =>
        rw [if_neg (by decide)]
        exact q σ H3 B3 R3 (Same.refl B3)
      | true =>
        rw [if_pos rfl]
        have q : postS W G B3 D (match b e3 with
          | .ok .nx e2 => whileN t b m e2
          | .ok .ct e2 => whileN t b m e2
          | .ok .bk e2 => .ok .nx e2
          | .ok (.rt x) e2 => .ok (.rt x) e2
          | .exc x e2 => .exc x e2
          | .no => .no) := q
        refine ⟨fun σ' H' => ∃ B e, Rel G B H' σ' e ∧ postS W G B D (whileN t b m e), fun σ' H' ⟨B4, e4, R4, q4⟩ => ⟨m, Nat.lt_succ_self m, B4, e4, R4, q4⟩, G, B3, e3, hK, R3, ?_⟩
        cases hb : b e3 with
        | no => rw [hb] at q; exact q
        | exc x e4 => rw [hb] at q; exact q
        | ok fl e4 =>
          rw [hb] at q
          cases fl with
          | nx => exact fun σ' H3 B3 R4 s4 => ⟨B3, e4, R4, q.up s4⟩
          | ct => exact fun σ' H3 B3 R4 s4 => ⟨B3, e4, R4, q.up s4⟩
          | bk => exact q
          | rt x => exact q
end
end DL

namespace DL
open PySem L2 PySem.Spec PyProof.Rows

/-! ### list comprehensions -/
def wipeE (e : Env) : List Nat → Env
  | [] => e
  | v :: vs => (wipeE e vs).set v .u
def keepE (e0 e : Env) : List Nat → Env
  | [] => e
  | v :: vs => (keepE e0 e vs).set v (e0.getD v .u)
def clean (e : Env) (vs : List Nat) : Bool := vs.all fun v => match e[v]? with
  | some (.o _ _ _) => false
  | none => false
  | _ => true
theorem wipe_get (σ : L2.St) : ∀ (vs : List Nat) (j : Nat), (j ∉ vs → (wipe σ vs)[j]? = σ[j]?) ∧ (j ∈ vs → j < σ.length → (wipe σ vs)[j]? = some none)
  | [], j => ⟨fun _ => rfl, fun h => by simp at h⟩
  | v :: vs, j => by
    have ih := wipe_get σ vs j
    unfold wipe
    by_cases z : v = j
    · subst z
      refine ⟨fun h => absurd List.mem_cons_self h, fun _ l => ?_⟩
      rw [List.getElem?_set_self (by rw [wipe_length]; exact l)]
    · rw [List.getElem?_set_ne z]
      refine ⟨fun h => ih.1 fun q => h (List.mem_cons_of_mem _ q), fun h l => ih.2 ?_ l⟩
      rcases List.mem_cons.mp h with q | q
      · exact absurd q.symm z
      · exact q
theorem wipeE_len (e : Env) : ∀ vs : List Nat, (wipeE e vs).length = e.length
  | [] => rfl
  | v :: vs => by unfold wipeE; rw [List.length_set, wipeE_len e vs]
theorem wipeE_get (e : Env) : ∀ (vs : List Nat) (j : Nat), (j ∉ vs → (wipeE e vs)[j]? = e[j]?) ∧ (j ∈ vs → j < e.length → (wipeE e vs)[j]? = some .u)
  | [], j => ⟨fun _ => rfl, fun h => by simp at h⟩
  | v :: vs, j => by
    have ih := wipeE_get e vs j
    unfold wipeE
    by_cases z : v = j
    · subst z
      refine ⟨fun h => absurd List.mem_cons_self h, fun _ l => ?_⟩
      rw [List.getElem?_set_self (by rw [wipeE_len]; exact l)]
    · rw [List.getElem?_set_ne z]
      refine ⟨fun h => ih.1 fun q => h (List.mem_cons_of_mem _ q), fun h l => ih.2 ?_ l⟩
      rcases List.mem_cons.mp h with q | q
      · exact absurd q.symm z
      · exact q
theorem keepE_len (e0 e : Env) : ∀ vs : List Nat, (keepE e0 e vs).length = e.length
  | [] => rfl
  | v :: vs => by unfold keepE; rw [List.length_set, keepE_len e0 e vs]
theorem keepE_get (e0 e : Env) : ∀ (vs : List Nat) (j : Nat), (j ∉ vs → (keepE e0 e vs)[j]? = e[j]?) ∧ (j ∈ vs → j < e.length → (keepE e0 e vs)[j]? = some (e0.getD j .u))
  | [], j => ⟨fun _ => rfl, fun h => by simp at h⟩
  | v :: vs, j => by
    have ih := keepE_get e0 e vs j
    unfold keepE
    by_cases z : v = j
    · subst z
      refine ⟨fun h => absurd List.mem_cons_self h, fun _ l => ?_⟩
      rw [List.getElem?_set_self (by rw [keepE_len]; exact l)]
    · rw [List.getElem?_set_ne z]
      refine ⟨fun h => ih.1 fun q => h (List.mem_cons_of_mem _ q), fun h l => ih.2 ?_ l⟩
      rcases List.mem_cons.mp h with q | q
      · exact absurd q.symm z
      · exact q
theorem wipe_only {σ σ2 : L2.St} {vs : List Nat} (o : Only vs (wipe σ vs) σ2) : wipe σ2 vs = wipe σ vs := by
  have l2 : σ2.length = σ.length := o.1.trans (wipe_length σ vs)
  apply List.ext_getElem?
  intro j
  by_cases z : j ∈ vs
  · by_cases l : j < σ.length
    · rw [(wipe_get σ vs j).2 z l, (wipe_get σ2 vs j).2 z (by omega)]
    · rw [List.getElem?_eq_none_iff.mpr (by rw [wipe_length]; omega), List.getElem?_eq_none_iff.mpr (by rw [wipe_length]; omega)]
  · rw [(wipe_get σ2 vs j).1 z, o.2 j z]
theorem wipe_own {σ : L2.St} {e : Env} {vs : List Nat} {j : Nat} {p q : Bool} {m : M} (h : (wipeE e vs)[j]? = some (.o p q m)) : j ∉ vs ∧ e[j]? = some (.o p q m) := by
  by_cases z : j ∈ vs
  · by_cases l : j < e.length
    · rw [(wipeE_get e vs j).2 z l] at h; cases h
    · rw [List.getElem?_eq_none_iff.mpr (by rw [wipeE_len]; omega)] at h; cases h
  · exact ⟨z, by rw [← (wipeE_get e vs j).1 z]; exact h⟩
theorem owned_wipe {σ : L2.St} {e : Env} {vs : List Nat} {a : Addr} (h : Owned (wipe σ vs) (wipeE e vs) a) : Owned σ e a := by
  obtain ⟨j, p, q, m, h1, h2⟩ := h
  obtain ⟨z, h3⟩ := wipe_own (σ := σ) h1
  exact ⟨j, p, q, m, h3, by rw [← (wipe_get σ vs j).1 z]; exact h2⟩
theorem Rel.wipe {G : Gm} {B H : Hp} {σ : L2.St} {e : Env} (R : Rel G B H σ e) (vs : List Nat) : Rel G B H (L2.wipe σ vs) (wipeE e vs) where
  len := by rw [wipe_length, wipeE_len]; exact R.len
  b0 := R.b0
  bh := R.bh
  fd := R.fd
  dm := R.dm
  fr := R.fr
  bf := R.bf
  sl := fun j s hs => by
    by_cases z : j ∈ vs
    · by_cases l : j < e.length
      · rw [(wipeE_get e vs j).2 z l] at hs
        cases hs
        trivial
      · rw [List.getElem?_eq_none_iff.mpr (by rw [wipeE_len]; omega)] at hs; cases hs
    · rw [(wipeE_get e vs j).1 z] at hs
      rw [(wipe_get σ vs j).1 z]
      exact R.sl j s hs
  ne := fun j k p q p' q' m m' a h1 h2 g1 g2 => by
    obtain ⟨z1, h3⟩ := wipe_own (σ := σ) h1
    obtain ⟨z2, h4⟩ := wipe_own (σ := σ) h2
    rw [(wipe_get σ vs j).1 z1] at g1
    rw [(wipe_get σ vs k).1 z2] at g2
    exact R.ne j k _ _ _ _ _ _ a h3 h4 g1 g2
/-- a new thing that no slot holds turns -/
theorem Rel.tmp {G : Gm} {B H : Hp} {σ : L2.St} {e : Env} {a : Addr} {o : HO} (R : Rel G B H σ e) (h0 : G.H0 a = none) (no : ¬ Owned σ e a) (hb : B a = none) : Rel G B (upd H a o) σ e where
  len := R.len
  b0 := R.b0
  bh := fun b u q => by rw [upd_ne (ne_of_none q hb)]; exact R.bh b u q
  fd := fun b h => R.fd b (by
    by_cases z : b = a
    · subst z; rw [upd_same] at h; cases h
    · rw [upd_ne z] at h; exact h)
  dm := fun b h => R.dm b (by
    by_cases z : b = a
    · subst z; rw [upd_same] at h; cases h
    · rw [upd_ne z] at h; exact h)
  fr := fun b u h n => by rw [upd_ne (ne_of_none h h0)]; exact R.fr b u h n
  bf := R.bf
  sl := fun j s hs => by
    have w := R.sl j s hs
    cases s with
    | u => trivial
    | v d => exact w
    | o p q m =>
      obtain ⟨b, u, q1, q2, q3, q4, q5, q6⟩ := w
      have nb : b ≠ a := fun z => no (z ▸ ⟨j, p, q, m, hs, q1⟩)
      exact ⟨b, u, q1, by rw [upd_ne nb]; exact q2, q3, q4, q5, q6⟩
  ne := R.ne
/-- behind the comprehension the block's own slots are as they were -/
theorem Rel.merge {G : Gm} {B H B' H' : Hp} {σ : L2.St} {e e' : Env} {vs : List Nat} (R : Rel G B H σ e) (hc : clean e vs = true) (S : Rel (G.at B H (Owned (L2.wipe σ vs) (wipeE e vs))) B' H' (L2.wipe σ vs) e') : Rel G B' H' σ (keepE e e' vs) ∧ ∀ a, Owned σ (keepE e e' vs) a → Owned (L2.wipe σ vs) e' a := by
  have T := (R.wipe vs).back S
  have l1 := R.len
  have l2 := T.len
  rw [wipe_length] at l2
  have own : ∀ (j : Nat) (p q : Bool) (m : M), (keepE e e' vs)[j]? = some (.o p q m) → j ∉ vs ∧ e'[j]? = some (.o p q m) := fun j p q m h => by
    by_cases z : j ∈ vs
    · by_cases l : j < e'.length
      · rw [(keepE_get e e' vs j).2 z l] at h
        have := List.all_eq_true.mp hc j z
        rw [List.getElem?_eq_getElem (by omega : j < e.length)] at this
        have h : e.getD j .u = .o p q m := Option.some.inj h
        rw [List.getD_eq_getElem?_getD, List.getElem?_eq_getElem (by omega : j < e.length)] at h
        have h : e[j] = .o p q m := h
        rw [h] at this
        cases this
      · rw [List.getElem?_eq_none_iff.mpr (by rw [keepE_len]; omega)] at h; cases h
    · exact ⟨z, by rw [← (keepE_get e e' vs j).1 z]; exact h⟩
  refine ⟨⟨by rw [keepE_len]; exact l2, T.b0, T.bh, T.fd, T.dm, T.fr, T.bf, fun j s hs => ?_, fun j k p q p' q' m m' a h1 h2 g1 g2 => ?_⟩, fun a ⟨j, p, q, m, h1, h2⟩ => ?_⟩
  · by_cases z : j ∈ vs
    · by_cases l : j < e'.length
      · rw [(keepE_get e e' vs j).2 z l] at hs
        have le : j < e.length := by omega
        have he : e[j]? = some s := by
          rw [List.getElem?_eq_getElem le]
          rw [List.getD_eq_getElem?_getD, List.getElem?_eq_getElem le] at hs
          exact hs
        have w := R.sl j s he
        cases s with
        | u => trivial
        | v d =>
          obtain ⟨v, q1, q2⟩ := w
          exact ⟨v, q1, q2.mono S.b0⟩
        | o p q m => exact absurd z (own j p q m (by rw [(keepE_get e e' vs j).2 z l]; exact hs)).1
      · rw [List.getElem?_eq_none_iff.mpr (by rw [keepE_len]; omega)] at hs; cases hs
    · rw [(keepE_get e e' vs j).1 z] at hs
      have w := T.sl j s hs
      rw [(wipe_get σ vs j).1 z] at w
      exact w
  · obtain ⟨z1, h3⟩ := own _ _ _ _ h1
    obtain ⟨z2, h4⟩ := own _ _ _ _ h2
    rw [← (wipe_get σ vs j).1 z1] at g1
    rw [← (wipe_get σ vs k).1 z2] at g2
    exact T.ne j k _ _ _ _ _ _ a h3 h4 g1 g2
  · obtain ⟨z1, h3⟩ := own _ _ _ _ h1
    exact ⟨j, p, q, m, h3, by rw [(wipe_get σ vs j).1 z1]; exact h2⟩

/-- [elt for t in ds if c], behind acc -/
def compL (t : Tg) (c : Env → Res Bool) (f : Env → Res RV) (vs : List Nat) : List D → List D → Env → Res (List D)
  | [], acc, e => .ok acc e
  | d :: ds, acc, e => match t d e with
    | none => .no
    | some e1 => match c e1 with
      | .ok true e2 => (match f e2 with
        | .ok x e3 => (match toD e3 x with
          | some (y, e4) => if acc.length < sizeLine then compL t c f vs ds (acc ++ [y]) (wipeE e4 vs) else .no
          | none => .no)
        | _ => .no)
      | .ok false e2 => compL t c f vs ds acc (wipeE e2 vs)
      | _ => .no
def eLc (vs : List Nat) (t : Tg) (it : Env → Res (List D)) (c : Env → Res Bool) (f : Env → Res RV) : Env → Res RV := fun e => (it e).bind fun ds e1 => if clean e1 vs = true then match compL t c f vs ds [] (wipeE e1 vs) with
    | .ok acc e2 => .ok (.m (.l acc)) (keepE e1 e2 vs)
    | _ => .no
  else .no
/-- no exception leaves -/
abbrev W0 : WX := fun _ _ _ _ => False
def cYes : Env → Res Bool := fun e => .ok true e
section
variable {X : Cx} {W : WX}
theorem pts_yes : PTs X [] (rdT W0 X.K cYes) := ⟨fun pins s σ H Q I ⟨G, B, e, hK, R, q⟩ => pts_nil.run pins s σ H Q I (q true H B R.rebase rfl)⟩
theorem pts_if {c : Expr} {t : Env → Res Bool} (h : DT X W0 c t) : PTs X [c] (rdT W0 X.K t) := pts_one h
theorem rd_lc {K : PySem.W.Frag} {vs : List Nat} {t : Tg} {i : Env → Res (List D)} {c : Env → Res Bool} {f : Env → Res RV} (σ : L2.St) (H : Hp) (Q : VK) (h : rdE W K (eLc vs t i c f) σ H Q) :
    tLc (rdI W K i) (rdTg K vs t) (rdT W0 K c) (rdE W0 K f) vs σ H Q := by
  obtain ⟨G, B, e, hK, R, q⟩ := h
  subst hK
  refine ⟨G, B, e, rfl, R, post.bind q fun ds e1 J H1 B1 R1 P1 q => ?_⟩
  intro Dd hD
  have P1 : Goes G.K J B1 ds := P1
  by_cases hc : clean e1 vs = true
  case neg => rw [if_neg hc] at q; exact q.elim
  rw [if_pos hc] at q
  let Gc := (G.at B H (Owned σ e)).at B1 H1 (Owned (L2.wipe σ vs) (wipeE e1 vs))
  have Rw : Rel Gc B1 H1 (L2.wipe σ vs) (wipeE e1 vs) := (R1.wipe vs).rebase
  have bD : B1 Dd = none := R1.bh.free hD
  have Rd := Rw.grow (Grow.own (o := .lst []) R1.bh hD)
  have gcD : Gc.H0 Dd = none := hD
  let finq : Res (List D) → Prop := fun r => match r with
    | .ok acc e' => ∀ H' B' ws, Rel Gc B' H' (L2.wipe σ vs) e' → H' Dd = some (.lst ws) → B' Dd = none → RepA G.K B' ws acc → ¬ Owned (L2.wipe σ vs) e' Dd → Q (.ref Dd) H'
    | _ => False
  have q0 : finq (compL t c f vs ds [] (wipeE e1 vs)) := by
    cases hr : compL t c f vs ds [] (wipeE e1 vs) with
    | no => rw [hr] at q; exact q
    | exc x e2 => rw [hr] at q; exact q.elim
    | ok acc e2 =>
      rw [hr] at q
      intro H' B' ws R' hD' bD' ra no
      obtain ⟨M1, M2⟩ := R1.merge hc R'
      exact q (.ref Dd) H' B' M1 ⟨Dd, _, rfl, hD', ⟨ws, rfl, ra⟩, bD', R1.fd _ hD, R1.dm _ hD, fun z => no (M2 _ z)⟩
  let S : Nat → Hp → Prop := fun i H => ∃ B e ws acc, Rel Gc B H (L2.wipe σ vs) e ∧ Same B1 B ∧ H Dd = some (.lst ws) ∧ B Dd = none ∧ RepA G.K B ws acc ∧ ¬ Owned (L2.wipe σ vs) e Dd ∧ finq (compL t c f vs (ds.drop i) acc e)
  refine ⟨fun i m H => m + i = ds.length ∧ S i H, ⟨ds.length, rfl, B1, wipeE e1 vs, [], [], Rd, Same.refl B1, upd_same, bD, .nil, fun z => ?_, q0⟩, ?_⟩
  · obtain ⟨o, q1, _⟩ := R1.owned (owned_wipe z)
    rw [hD] at q1; cases q1
  rintro i m H ⟨hm, B2, e2, ws, acc, R2, s2, hw, bw, ra, no, fq⟩
  obtain ⟨go, st⟩ := P1 i B2 H s2 R2.bh
  by_cases l : i < ds.length
  case neg =>
    refine .inl ⟨st (by omega), ?_⟩
    rw [List.drop_eq_nil_of_le (by omega)] at fq
    exact fq H B2 ws R2 hw bw ra no
  refine .inr ⟨(go l).1, fun H' => S (i + 1) H', fun H' s' => ⟨m - 1, by omega, by omega, s'⟩, fun x H' hy => ?_⟩
  obtain ⟨B', d, hd, gr, rp⟩ := (go l).2 x H' hy
  have hd' : ds[i] = d := by
    rw [List.getElem?_eq_getElem l] at hd
    exact Option.some.inj hd
  rw [List.drop_eq_getElem_cons l, hd'] at fq
  have R3 : Rel Gc B' H' (L2.wipe σ vs) e2 := R2.grow gr
  have hw3 : H' Dd = some (.lst ws) := gr.eh _ _ hw
  have bw3 : B' Dd = none := gr.nb _ _ hw bw
  let Gt := Gc.at B' H' (Owned (L2.wipe σ vs) e2)
  have fq : finq (match t d e2 with
    | none => .no
    | some e1 => match c e1 with
      | .ok true e2 => (match f e2 with
        | .ok x e3 => (match toD e3 x with
          | some (y, e4) => if acc.length < sizeLine then compL t c f vs (ds.drop (i + 1)) (acc ++ [y]) (wipeE e4 vs) else .no
          | none => .no)
        | _ => .no)
      | .ok false e2 => compL t c f vs (ds.drop (i + 1)) acc (wipeE e2 vs)
      | _ => .no) := fq
  cases ht : t d e2 with
  | none => rw [ht] at fq; exact fq.elim
  | some e3 =>
  rw [ht] at fq
  refine ⟨Gt, B', e2, d, e3, rfl, R3.rebase, rp, ht, fun σ2 R4 o => ?_⟩
  have hwp : L2.wipe σ2 vs = L2.wipe σ vs := wipe_only o
  refine ⟨hwp, Gt, B', e3, rfl, R4, ?_⟩
  dsimp only at fq
  -- what stands at the new list's place as long as Gt lasts
  have stay : ∀ {B4 H4 : Hp} {e4 : Env}, Rel Gt B4 H4 σ2 e4 → H4 Dd = some (.lst ws) ∧ B4 Dd = none ∧ ¬ Owned σ2 e4 Dd := fun {B4 H4 e4} R => by
    refine ⟨R.fr Dd _ hw3 no, R.bf Dd _ hw3 no bw3, fun z => ?_⟩
    obtain ⟨_, _, _, z⟩ := R.owned z
    rcases z with z | z
    · rw [show H' Dd = none from z] at hw3; cases hw3
    · exact no z
  have down : ∀ {B4 H4 : Hp} {e4 : Env}, Rel Gt B4 H4 σ2 e4 → Rel Gc B4 H4 (L2.wipe σ vs) (wipeE e4 vs) ∧ ¬ Owned (L2.wipe σ vs) (wipeE e4 vs) Dd := fun {B4 H4 e4} R => by
    have R' := (R3.back R).wipe vs
    rw [hwp] at R'
    refine ⟨R', fun z => (stay R).2.2 ?_⟩
    rw [← hwp] at z
    exact owned_wipe z
  cases hcc : c e3 with
  | no => rw [hcc] at fq; exact fq
  | exc x e4 => rw [hcc] at fq; exact fq.elim
  | ok b e4 =>
    rw [hcc] at fq
    intro v H4 B4 R5 hv
    cases hv
    have R5 := R4.back R5
    obtain ⟨k1, k2, k3⟩ := stay R5
    cases b with
    | false =>
      rw [if_neg (by decide)]
      obtain ⟨d1, d2⟩ := down R5
      exact ⟨B4, wipeE e4 vs, ws, acc, d1, s2.trans (gr.eb.trans R5.b0), k1, k2, ra.mono (gr.eb.trans R5.b0), d2, fq⟩
    | true =>
      rw [if_pos rfl]
      refine ⟨Gt, B4, e4, rfl, R5, ?_⟩
      dsimp only at fq
      cases hf : f e4 with
      | no => rw [hf] at fq; exact fq
      | exc x e5 => rw [hf] at fq; exact fq.elim
      | ok x e5 =>
        rw [hf] at fq
        intro y H5 B5 R6 P6
        dsimp only at fq
        cases htd : toD e5 x with
        | none => rw [htd] at fq; exact fq.elim
        | some p =>
          obtain ⟨z, e6⟩ := p
          rw [htd] at fq
          dsimp only at fq
          obtain ⟨B6, R7, s7, rp7⟩ := Rel.frz R6 P6 htd
          have R7 := R5.back R7
          obtain ⟨j1, j2, j3⟩ := stay R7
          by_cases hz : acc.length < sizeLine
          case neg => rw [if_neg hz] at fq; exact fq.elim
          rw [if_pos hz] at fq
          obtain ⟨d1, d2⟩ := down R7
          have sB : Same B2 B6 := gr.eb.trans R7.b0
          refine ⟨ws, j1, by rw [ra.len]; exact hz, B6, wipeE e6 vs, ws ++ [y], acc ++ [z], d1.tmp gcD d2 j2, s2.trans sB, upd_same, j2, (ra.mono sB).app (.cons rp7 .nil), d2, fq⟩
theorem de_lc {elt tg iter : Expr} {ifs : List Expr} {scope : Scope} {own : List (Str × Nat)} {pos : Pos} {t : Tg} {i : Env → Res (List D)} {c : Env → Res Bool} {f : Env → Res RV} (hc : X.calm = true) (hN : X.N.Nodup) (hi : DI X W tg iter i) (ok : BlkOk X.N X.env.scope scope own)
    (hg : ∀ (s : Shared) (H : Hp) (C : Addr) (cl : List (Str × Addr)) (fp : List Addr), DTg (X.blk s H scope (compEnvC scope cl C X.env) fp) tg (own.map (·.2)) t) (ht : ∀ (s : Shared) (H : Hp) (C : Addr) (cl : List (Str × Addr)) (fp : List Addr), PTs (X.blk s H scope (compEnvC scope cl C X.env) fp) ifs (rdT W0 X.K c))
    (he : ∀ (s : Shared) (H : Hp) (C : Addr) (cl : List (Str × Addr)) (fp : List Addr), DE (X.blk s H scope (compEnvC scope cl C X.env) fp) W0 elt f) (hs : ∀ x, foldedSetIterable iter X.env x = pure x := by intro _; rfl) : DE X W (.ListComp elt [⟨tg, iter, ifs, 0⟩] scope pos) (eLc (own.map (·.2)) t i c f) :=
  PE.weak (pe_lc (own := own) (g := rdTg X.K (own.map Prod.snd) t) (tt := rdT W0 X.K c) (te := rdE W0 X.K f) hc hN hi ok (fun s H C cl fp => hg s H C cl fp) ht (fun s H C cl fp => he s H C cl fp) hs) fun σ H Q h => rd_lc σ H Q h
theorem ds_setLc {k : Nat} {y : Str} {py : Pos} {elt tg iter : Expr} {ifs : List Expr} {scope : Scope} {own : List (Str × Nat)} {pos spos : Pos} {t : Tg} {i : Env → Res (List D)} {c : Env → Res Bool} {f : Env → Res RV} (hc : X.calm = true) (hN : X.N.Nodup) (hy : X.N[k]? = some y) (hyl : X.env.scope.names.lookup y = some .local)
    (hsw : swapsWith (.ListComp elt [⟨tg, iter, ifs, 0⟩] scope pos) (some (.Name y py)) spos.line X.env = pure true) (hi : DI X W tg iter i) (ok : BlkOk X.N X.env.scope scope own)
    (hg : ∀ (s : Shared) (H : Hp) (C : Addr) (cl : List (Str × Addr)) (fp : List Addr), DTg (X.blk s H scope (compEnvC scope cl C X.env) fp) tg (own.map (·.2)) t) (ht : ∀ (s : Shared) (H : Hp) (C : Addr) (cl : List (Str × Addr)) (fp : List Addr), PTs (X.blk s H scope (compEnvC scope cl C X.env) fp) ifs (rdT W0 X.K c))
    (he : ∀ (s : Shared) (H : Hp) (C : Addr) (cl : List (Str × Addr)) (fp : List Addr), DE (X.blk s H scope (compEnvC scope cl C X.env) fp) W0 elt f) (hs : ∀ x, foldedSetIterable iter X.env x = pure x := by intro _; rfl) :
    DS X W (.Assign [.Name y py] (.ListComp elt [⟨tg, iter, ifs, 0⟩] scope pos) spos) (sSet k (eLc (own.map (·.2)) t i c f)) :=
  PS.weak (ps_setLc (own := own) (g := rdTg X.K (own.map Prod.snd) t) (tt := rdT W0 X.K c) (te := rdE W0 X.K f) hc hN hy hyl hsw hi ok (fun s H C cl fp => hg s H C cl fp) ht (fun s H C cl fp => he s H C cl fp) hs) fun D σ H ⟨G, B, e, hK, R, q⟩ => rd_lc (W := W) σ H _ ⟨G, B, e, hK, R, postS.of R q fun x e1 v H1 B1 R1 S1 P1 q => assign_ok R1 (.inr ⟨B, H, e, rfl, R⟩) P1 q⟩
end
end DL

namespace DL
open PySem L2 PySem.Spec PyProof.Rows

/-! ### what the rules by values ask, told by data -/
abbrev sv (d : D) : Option RV := some (.v d)
section
variable {K : PySem.W.Frag} {B H : Hp} {Q : VK}
theorem q_v {d : D} {v : V} (s : Same B H) (q : ∀ v' B' H', Grow B H B' H' → OutOk K H B' H' (.v d) v' → Q v' H') (r : Rep K B v d) : Q v H := q v B H (Grow.refl s) r
theorem q_l {ds : List D} {ws : List V} (s : Same B H) (q : ∀ v' B' H', Grow B H B' H' → OutOk K H B' H' (.m (.l ds)) v' → Q v' H') (r : RepA K B ws ds) (p : Addr) (hp : H p = none) : Q (.ref p) (upd H p (.lst ws)) :=
  q (.ref p) B _ (Grow.own s hp) ⟨p, .lst ws, rfl, hp, upd_same, ⟨ws, rfl, r⟩, s.free hp⟩
theorem q_t {ds : List D} {ws : List V} (s : Same B H) (q : ∀ v' B' H', Grow B H B' H' → OutOk K H B' H' (.v (.tup ds)) v' → Q v' H') (r : RepA K B ws ds) (p : Addr) (hp : H p = none) : Q (.ref p) (upd H p (.tup ws)) :=
  q (.ref p) (upd B p (.tup ws)) _ (Grow.new s hp) (.tup (SqT.of upd_same) (r.mono (Grow.new (o := .tup ws) s hp).eb))
end

/-! #### arithmetic -/
def gAdd : D → D → Option RV
  | .int i, .int j => sv (.int (i + j))
  | .str a, .str b => if a.length + b.length ≤ sizeLine then sv (.str (a ++ b)) else none
  | .lst xs, .lst ys => if xs.length + ys.length ≤ sizeLine then some (.m (.l (xs ++ ys))) else none
  | .tup xs, .tup ys => if xs.length + ys.length ≤ sizeLine then sv (.tup (xs ++ ys)) else none
  | _, _ => none
def gSub : D → D → Option RV
  | .int i, .int j => sv (.int (i - j))
  | _, _ => none
def gMul : D → D → Option RV
  | .int i, .int j => if -(2 ^ 64) < i ∧ i < 2 ^ 64 ∨ -(2 ^ 64) < j ∧ j < 2 ^ 64 then sv (.int (i * j)) else none
  | .lst xs, .int k => if -(2 ^ 63) ≤ k ∧ k < 2 ^ 63 ∧ xs.length * k.toNat ≤ sizeLine then some (.m (.l (List.replicate k.toNat xs).flatten)) else none
  | _, _ => none
def gDiv : D → D → Option RV
  | .int i, .int j => if 0 < j ∧ j < 2 ^ 30 then sv (.int (i / j)) else none
  | _, _ => none
def gMod : D → D → Option RV
  | .int i, .int j => if 0 < j then sv (.int (i % j)) else none
  | _, _ => none
def gPow : D → D → Option RV
  | .int i, .int j => if 0 ≤ j ∧ j ≤ 64 ∧ 0 ≤ i ∧ i ≤ 1000 then sv (.int (i ^ j.toNat)) else none
  | _, _ => none

/-! #### data of the library -/
mutual
def D.py : D → Option PyData
  | .non => some .none
  | .bl b => some (.bool b)
  | .int i => some (.int i)
  | .str x => some (.str x)
  | .lst xs => (D.pyAll xs).map .list
  | .tup xs => (D.pyAll xs).map .tuple
  | _ => none
def D.pyAll : List D → Option (List PyData)
  | [] => some []
  | d :: ds => (D.py d).bind fun p => (D.pyAll ds).bind fun ps => some (p :: ps)
end
mutual
theorem Rep.dp {K : PySem.W.Frag} {H : Hp} : ∀ {v : V} {d : D} {p : PyData}, Rep K H v d → d.py = some p → Dp K H v p
  | _, _, _, .non, h => by cases h; exact .non
  | _, _, _, .bl b, h => by cases h; exact .bl b
  | _, _, _, .int i, h => by cases h; exact .int i
  | _, _, _, .str x, h => by cases h; exact .str x
  | _, .lst xs, _, .lst h r, hp => by
    unfold D.py at hp
    cases ha : D.pyAll xs with
    | none => rw [ha] at hp; cases hp
    | some ps => rw [ha] at hp; cases hp; exact .lst (SqL.of h) (RepA.dp r ha)
  | _, .tup xs, _, .tup h r, hp => by
    unfold D.py at hp
    cases ha : D.pyAll xs with
    | none => rw [ha] at hp; cases hp
    | some ps => rw [ha] at hp; cases hp; exact .tup h (RepA.dp r ha)
  | _, _, _, .fl _ _, h => by cases h
  | _, _, _, .dct _ _, h => by cases h
  | _, _, _, .obj _ _ _, h => by cases h
  | _, _, _, .ty _, h => by cases h
  | _, _, _, .cls _, h => by cases h
  | _, _, _, .exn _ _ _ _, h => by cases h
theorem RepA.dp {K : PySem.W.Frag} {H : Hp} : ∀ {v : List V} {d : List D} {p : List PyData}, RepA K H v d → D.pyAll d = some p → DpAll K H v p
  | _, _, _, .nil, h => by cases h; exact .nil
  | _, _, _, .cons h t, hp => by
    unfold D.pyAll at hp
    obtain ⟨p, h1, h2⟩ := bind1 hp
    obtain ⟨ps, h3, h4⟩ := bind1 h2
    cases h4
    exact .cons (Rep.dp h h1) (RepA.dp t h3)
end
def gEqD : D → D → Option RV := fun d c => d.py.bind fun p => c.py.bind fun q => if SeqAt.shaped p = true ∧ SeqAt.shaped q = true then sv (.bl (PyData.eqv p q)) else none
def gEq : D → D → Option RV
  | .str a, .str b => sv (.bl (decide (a = b)))
  | d, c => gEqD d c
def gNeD : D → D → Option RV := fun d c => d.py.bind fun p => c.py.bind fun q => if SeqAt.shaped p = true ∧ SeqAt.shaped q = true then sv (.bl (!PyData.eqv p q)) else none
def gNe : D → D → Option RV
  | .str a, .str b => sv (.bl (!decide (a = b)))
  | d, c => gNeD d c
def isNon : D → Bool
  | .non => true
  | _ => false
def gIs (d c : D) : Option RV := match c with
  | .non => sv (.bl (isNon d))
  | _ => none
def gIsNot (d c : D) : Option RV := match c with
  | .non => sv (.bl (!isNon d))
  | _ => none
def gLt : D → D → Option RV
  | .int i, .int j => sv (.bl (decide (i < j)))
  | .str i, .str j => sv (.bl (decide (i.cps.toList < j.cps.toList)))
  | _, _ => none
def gLe : D → D → Option RV
  | .int i, .int j => sv (.bl (decide (i ≤ j)))
  | .str i, .str j => sv (.bl (!decide (j.cps.toList < i.cps.toList)))
  | _, _ => none
def gGt : D → D → Option RV
  | .int i, .int j => sv (.bl (decide (j < i)))
  | .str i, .str j => sv (.bl (decide (j.cps.toList < i.cps.toList)))
  | _, _ => none
def gGe : D → D → Option RV
  | .int i, .int j => sv (.bl (decide (j ≤ i)))
  | .str i, .str j => sv (.bl (!decide (i.cps.toList < j.cps.toList)))
  | _, _ => none
def flatD : D → Bool
  | .non => true
  | .bl _ => true
  | .int _ => true
  | .str _ => true
  | _ => false
def eqD : D → D → Bool
  | .non, .non => true
  | .bl a, .bl b => a == b
  | .bl a, .int b => (if a then 1 else 0) == b
  | .int a, .bl b => a == (if b then 1 else 0)
  | .int a, .int b => a == b
  | .str a, .str b => a == b
  | _, _ => false
theorem Rep.flat {K : PySem.W.Frag} {B : Hp} {v : V} {d : D} (h : Rep K B v d) : flatV v = flatD d := by cases h <;> rfl
theorem Rep.eqV {K : PySem.W.Frag} {B : Hp} {v w : V} {d c : D} (h : Rep K B v d) (h2 : Rep K B w c) : L2.eqV v w = eqD d c := by cases h <;> cases h2 <;> rfl
theorem RepA.flat {K : PySem.W.Frag} {B : Hp} : ∀ {v : List V} {d : List D}, RepA K B v d → v.all flatV = d.all flatD
  | _, _, .nil => rfl
  | _, _, .cons h t => by rw [List.all_cons, List.all_cons, h.flat, RepA.flat t]
theorem RepA.inV {K : PySem.W.Frag} {B : Hp} {x : V} {c : D} (hx : Rep K B x c) : ∀ {v : List V} {d : List D}, RepA K B v d → L2.inV x v = d.any fun y => eqD y c
  | _, _, .nil => rfl
  | _, _, .cons h t => by
    have ih := RepA.inV hx t
    unfold L2.inV at ih ⊢
    rw [List.any_cons, List.any_cons, h.eqV hx, ih]
/-- is it there -/
def inD (d c : D) : Option Bool := match c with
  | .lst ds => if flatD d = true ∧ ds.all flatD = true then some (ds.any fun y => eqD y d) else none
  | .tup ds => if flatD d = true ∧ ds.all flatD = true then some (ds.any fun y => eqD y d) else none
  | .str z => (match d with
    | .str x => if x.length = 1 then some (decide (x.cps.toList.headD 0 ∈ z.cps.toList)) else none
    | _ => none)
  | _ => none
def gIn (d c : D) : Option RV := (inD d c).bind fun b => sv (.bl b)
def gNotIn (d c : D) : Option RV := (inD d c).bind fun b => sv (.bl (!b))

section
variable {X : Cx}
theorem p_add : Pure2 X.K (fun x y H Q => (rI0 (fun i j => .int (i + j))) x y H Q ∨ (fun x y H Q => ∃ i j, x = .str i ∧ y = .str j ∧ i.length + j.length ≤ sizeLine ∧ Q (.str (i ++ j)) H) x y H Q ∨ rCat x y H Q ∨ rCatA X.K x y H Q) gAdd := fun B H v w d c out Q s h1 h2 hg q => by
  unfold gAdd at hg
  split at hg
  · cases hg; exact .inl ⟨_, _, h1.int, h2.int, q_v s q (.int _)⟩
  · split at hg
    · cases hg; rename_i z; exact .inr (.inl ⟨_, _, h1.str, h2.str, z, q_v s q (.str _)⟩)
    · cases hg
  · split at hg
    · cases hg
      rename_i z
      obtain ⟨a, vs, rfl, g1, r1⟩ := h1.lst s
      obtain ⟨b, ws, rfl, g2, r2⟩ := h2.lst s
      exact .inr (.inr (.inl ⟨a, b, vs, ws, rfl, rfl, g1, g2, by rw [r1.len, r2.len]; exact z, q_l s q (r1.app r2)⟩))
    · cases hg
  · split at hg
    · cases hg
      rename_i z
      obtain ⟨a, vs, rfl, g1, r1⟩ := h1.tup s
      obtain ⟨b, ws, rfl, g2, r2⟩ := h2.tup s
      refine .inr (.inr (.inr ⟨a, b, vs, ws, rfl, rfl, g1, g2, by rw [r1.len, r2.len]; exact z, fun e => ?_, fun _ e => ?_, fun _ _ => q_t s q (r1.app r2)⟩))
      · subst e
        cases r1
        rcases h2 with h2 | ⟨_, _, m, _, _, _, y⟩
        · exact q_v s q h2
        · cases m <;> cases y
      · subst e
        cases r2
        rw [List.append_nil] at q
        rcases h1 with h1 | ⟨_, _, m, _, _, _, y⟩
        · exact q_v s q h1
        · cases m <;> cases y
    · cases hg
  · cases hg
theorem o_add : OpR X (binaryOp .Add) (fun x y H Q => (rI0 (fun i j => .int (i + j))) x y H Q ∨ (fun x y H Q => ∃ i j, x = .str i ∧ y = .str j ∧ i.length + j.length ≤ sizeLine ∧ Q (.str (i ++ j)) H) x y H Q ∨ rCat x y H Q ∨ rCatA X.K x y H Q) := op_add.or (op_add_str.or (op_cat.or op_catA))
theorem p_sub : Pure2 X.K (rI0 (fun i j => .int (i - j))) gSub := fun B H v w d c out Q s h1 h2 hg q => by
  unfold gSub at hg
  split at hg
  · cases hg; exact ⟨_, _, h1.int, h2.int, q_v s q (.int _)⟩
  · cases hg
theorem p_mul : Pure2 X.K (fun x y H Q => rI CMul (fun i j => .int (i * j)) x y H Q ∨ rRep x y H Q) gMul := fun B H v w d c out Q s h1 h2 hg q => by
  unfold gMul at hg
  split at hg
  · split at hg
    · cases hg; rename_i z; exact .inl ⟨_, _, h1.int, h2.int, z, q_v s q (.int _)⟩
    · cases hg
  · split at hg
    · cases hg
      rename_i z
      obtain ⟨a, vs, rfl, g1, r1⟩ := h1.lst s
      refine .inr ⟨a, _, vs, rfl, h2.int, g1, z.1, z.2.1, by rw [r1.len]; exact z.2.2, q_l s q ?_⟩
      generalize Int.toNat _ = n
      induction n with
      | zero => exact .nil
      | succ n ih => rw [List.replicate_succ, List.replicate_succ, List.flatten_cons, List.flatten_cons]; exact r1.app ih
    · cases hg
  · cases hg
theorem o_mul : OpR X (binaryOp .Mult) (fun x y H Q => rI CMul (fun i j => .int (i * j)) x y H Q ∨ rRep x y H Q) := op_mul.or op_rep
theorem p_div : Pure2 X.K (rI CDiv fun i j => .int (i / j)) gDiv := fun B H v w d c out Q s h1 h2 hg q => by
  unfold gDiv at hg
  split at hg
  · split at hg
    · cases hg; rename_i z; exact ⟨_, _, h1.int, h2.int, z, q_v s q (.int _)⟩
    · cases hg
  · cases hg
theorem p_mod : Pure2 X.K (rI (fun _ j => 0 < j) fun i j => .int (i % j)) gMod := fun B H v w d c out Q s h1 h2 hg q => by
  unfold gMod at hg
  split at hg
  · split at hg
    · cases hg; rename_i z; exact ⟨_, _, h1.int, h2.int, z, q_v s q (.int _)⟩
    · cases hg
  · cases hg
theorem p_eqD : Pure2 X.K (rEqD X.K) gEqD := fun B H v w d c out Q s h1 h2 hg q => by
  obtain ⟨p, y, e1, e2, e3⟩ := bind2 hg
  split at e3
  · cases e3
    rename_i z
    exact ⟨p, y, Rep.dp (h1.rep s) e1, Rep.dp (h2.rep s) e2, z.1, z.2, q_v s q (.bl _)⟩
  · cases e3
theorem p_neD : Pure2 X.K (rNeD X.K) gNeD := fun B H v w d c out Q s h1 h2 hg q => by
  obtain ⟨p, y, e1, e2, e3⟩ := bind2 hg
  split at e3
  · cases e3
    rename_i z
    exact ⟨p, y, Rep.dp (h1.rep s) e1, Rep.dp (h2.rep s) e2, z.1, z.2, q_v s q (.bl _)⟩
  · cases e3
theorem dec_str (a b : Str) : decide (V.str a = V.str b) = decide (a = b) := by
  rw [decide_eq_decide]
  exact ⟨fun h => V.str.inj h, fun h => h ▸ rfl⟩
theorem p_eq : Pure2 X.K (fun x y H Q => rEqD X.K x y H Q ∨ rEq x y H Q) gEq := fun B H v w d c out Q s h1 h2 hg q => by
  unfold gEq at hg
  split at hg
  · cases hg
    rw [h1.str, h2.str]
    exact .inr ⟨rfl, by rw [dec_str]; exact q_v s q (.bl _)⟩
  · exact .inl (p_eqD B H v w d c out Q s h1 h2 hg q)
theorem p_ne : Pure2 X.K (fun x y H Q => rNeD X.K x y H Q ∨ rNe x y H Q) gNe := fun B H v w d c out Q s h1 h2 hg q => by
  unfold gNe at hg
  split at hg
  · cases hg
    rw [h1.str, h2.str]
    exact .inr ⟨rfl, by rw [dec_str]; exact q_v s q (.bl _)⟩
  · exact .inl (p_neD B H v w d c out Q s h1 h2 hg q)
theorem o_eq (hu : X.A.units + 64 < cLine) : OpR X (compareOp .Eq) (fun x y H Q => rEqD X.K x y H Q ∨ rEq x y H Q) := (op_eqD hu).or op_eq
theorem o_ne (hu : X.A.units + 64 < cLine) : OpR X (compareOp .NotEq) (fun x y H Q => rNeD X.K x y H Q ∨ rNe x y H Q) := (op_neD hu).or op_ne
theorem RepT.isNon {B H : Hp} {v : V} {d : D} (h : RepT X.K B H v d) : decide (v = .non) = isNon d := by
  rcases h with h | ⟨a, o, m, e1, _, _, z⟩
  · cases h <;> simp [DL.isNon]
  · subst e1 z
    cases m <;> simp [M.toD, DL.isNon]
theorem p_is : Pure2 X.K (fun x y H Q => y = .non ∧ Q (.bl (decide (x = .non))) H) gIs := fun B H v w d c out Q s h1 h2 hg q => by
  unfold gIs at hg
  split at hg
  · cases hg
    refine ⟨h2.non, ?_⟩
    rw [h1.isNon]
    exact q_v s q (.bl _)
  · cases hg
theorem p_isNot : Pure2 X.K (fun x y H Q => y = .non ∧ Q (.bl (!decide (x = .non))) H) gIsNot := fun B H v w d c out Q s h1 h2 hg q => by
  unfold gIsNot at hg
  split at hg
  · cases hg
    refine ⟨h2.non, ?_⟩
    rw [h1.isNon]
    exact q_v s q (.bl _)
  · cases hg
theorem p_lt : Pure2 X.K (fun x y H Q => rI0 (fun i j => .bl (decide (i < j))) x y H Q ∨ (fun x y H Q => ∃ i j, x = .str i ∧ y = .str j ∧ Q (.bl (decide (i.cps.toList < j.cps.toList))) H) x y H Q) gLt := fun B H v w d c out Q s h1 h2 hg q => by
  unfold gLt at hg
  split at hg
  · cases hg; exact .inl ⟨_, _, h1.int, h2.int, q_v s q (.bl _)⟩
  · cases hg; exact .inr ⟨_, _, h1.str, h2.str, q_v s q (.bl _)⟩
  · cases hg
theorem o_lt : OpR X (compareOp .Lt) (fun x y H Q => rI0 (fun i j => .bl (decide (i < j))) x y H Q ∨ (fun x y H Q => ∃ i j, x = .str i ∧ y = .str j ∧ Q (.bl (decide (i.cps.toList < j.cps.toList))) H) x y H Q) := op_lt.or op_lt_str
theorem p_le : Pure2 X.K (fun x y H Q => rI0 (fun i j => .bl (decide (i ≤ j))) x y H Q ∨ (fun x y H Q => ∃ i j, x = .str i ∧ y = .str j ∧ Q (.bl (!decide (j.cps.toList < i.cps.toList))) H) x y H Q) gLe := fun B H v w d c out Q s h1 h2 hg q => by
  unfold gLe at hg
  split at hg
  · cases hg; exact .inl ⟨_, _, h1.int, h2.int, q_v s q (.bl _)⟩
  · cases hg; exact .inr ⟨_, _, h1.str, h2.str, q_v s q (.bl _)⟩
  · cases hg
theorem o_le : OpR X (compareOp .LtE) (fun x y H Q => rI0 (fun i j => .bl (decide (i ≤ j))) x y H Q ∨ (fun x y H Q => ∃ i j, x = .str i ∧ y = .str j ∧ Q (.bl (!decide (j.cps.toList < i.cps.toList))) H) x y H Q) := op_le.or op_le_str
theorem p_gt : Pure2 X.K (fun x y H Q => rI0 (fun i j => .bl (decide (j < i))) x y H Q ∨ (fun x y H Q => ∃ i j, x = .str i ∧ y = .str j ∧ Q (.bl (decide (j.cps.toList < i.cps.toList))) H) x y H Q) gGt := fun B H v w d c out Q s h1 h2 hg q => by
  unfold gGt at hg
  split at hg
  · cases hg; exact .inl ⟨_, _, h1.int, h2.int, q_v s q (.bl _)⟩
  · cases hg; exact .inr ⟨_, _, h1.str, h2.str, q_v s q (.bl _)⟩
  · cases hg
theorem o_gt : OpR X (compareOp .Gt) (fun x y H Q => rI0 (fun i j => .bl (decide (j < i))) x y H Q ∨ (fun x y H Q => ∃ i j, x = .str i ∧ y = .str j ∧ Q (.bl (decide (j.cps.toList < i.cps.toList))) H) x y H Q) := op_gt.or op_gt_str
theorem p_ge : Pure2 X.K (fun x y H Q => rI0 (fun i j => .bl (decide (j ≤ i))) x y H Q ∨ (fun x y H Q => ∃ i j, x = .str i ∧ y = .str j ∧ Q (.bl (!decide (i.cps.toList < j.cps.toList))) H) x y H Q) gGe := fun B H v w d c out Q s h1 h2 hg q => by
  unfold gGe at hg
  split at hg
  · cases hg; exact .inl ⟨_, _, h1.int, h2.int, q_v s q (.bl _)⟩
  · cases hg; exact .inr ⟨_, _, h1.str, h2.str, q_v s q (.bl _)⟩
  · cases hg
theorem o_ge : OpR X (compareOp .GtE) (fun x y H Q => rI0 (fun i j => .bl (decide (j ≤ i))) x y H Q ∨ (fun x y H Q => ∃ i j, x = .str i ∧ y = .str j ∧ Q (.bl (!decide (i.cps.toList < j.cps.toList))) H) x y H Q) := op_ge.or op_ge_str
theorem p_pow : Pure2 X.K (rI CPow fun i j => .int (i ^ j.toNat)) gPow := fun B H v w d c out Q s h1 h2 hg q => by
  unfold gPow at hg
  split at hg
  · split at hg
    · cases hg; rename_i z; exact ⟨_, _, h1.int, h2.int, ⟨z.1, by omega, by omega⟩, q_v s q (.int _)⟩
    · cases hg
  · cases hg
theorem inD_ok {neg : Bool} {B H : Hp} {v w : V} {d c : D} {b : Bool} {Q : VK} (s : Same B H) (h1 : RepT X.K B H v d) (h2 : RepT X.K B H w c) (hg : inD d c = some b) (q : ∀ v' B' H', Grow B H B' H' → OutOk X.K H B' H' (.v (.bl (if neg then !b else b))) v' → Q v' H') :
    (rIn X.K neg v w H Q) ∨ ∃ (c : Nat) (z : Str), v = .str ⟨#[c]⟩ ∧ w = .str z ∧ Q (.bl (if neg then !decide (c ∈ z.cps.toList) else decide (c ∈ z.cps.toList))) H := by
  unfold inD at hg
  split at hg
  · split at hg
    · cases hg
      rename_i z
      obtain ⟨a, vs, rfl, g1, r1⟩ := h2.lst s
      have r1 := r1.mono s
      have hd := h1.rep s
      refine .inl ⟨a, vs, rfl, .inl (SqL.of g1), by rw [hd.flat]; exact z.1, by rw [r1.flat]; exact z.2, ?_⟩
      rw [RepA.inV hd r1]
      exact q_v s q (.bl _)
    · cases hg
  · split at hg
    · cases hg
      rename_i z
      obtain ⟨a, vs, rfl, g1, r1⟩ := h2.tup s
      have r1 := r1.mono s
      have hd := h1.rep s
      refine .inl ⟨a, vs, rfl, .inr g1, by rw [hd.flat]; exact z.1, by rw [r1.flat]; exact z.2, ?_⟩
      rw [RepA.inV hd r1]
      exact q_v s q (.bl _)
    · cases hg
  · split at hg
    · split at hg
      · cases hg
        rename_i x z
        obtain ⟨⟨l⟩⟩ := x
        have e : ∃ n, l = [n] := by
          have z : l.length = 1 := z
          match l, z with
          | [n], _ => exact ⟨n, rfl⟩
        obtain ⟨n, rfl⟩ := e
        refine .inr ⟨n, _, h1.str, h2.str, ?_⟩
        exact q_v s q (.bl _)
      · cases hg
    · cases hg
  · cases hg
theorem p_in : Pure2 X.K (fun x y H Q => rIn X.K false x y H Q ∨ (fun x y H Q => ∃ (c : Nat) (z : Str), x = .str ⟨#[c]⟩ ∧ y = .str z ∧ Q (.bl (decide (c ∈ z.cps.toList))) H) x y H Q) gIn := fun B H v w d c out Q s h1 h2 hg q => by
  obtain ⟨b, e1, e2⟩ := bind1 hg
  cases e2
  exact inD_ok (neg := false) s h1 h2 e1 q
theorem p_notIn : Pure2 X.K (fun x y H Q => rIn X.K true x y H Q ∨ (fun x y H Q => ∃ (c : Nat) (z : Str), x = .str ⟨#[c]⟩ ∧ y = .str z ∧ Q (.bl (!decide (c ∈ z.cps.toList))) H) x y H Q) gNotIn := fun B H v w d c out Q s h1 h2 hg q => by
  obtain ⟨b, e1, e2⟩ := bind1 hg
  cases e2
  exact inD_ok (neg := true) s h1 h2 e1 q
theorem o_in : OpR X (compareOp .In) (fun x y H Q => rIn X.K false x y H Q ∨ (fun x y H Q => ∃ (c : Nat) (z : Str), x = .str ⟨#[c]⟩ ∧ y = .str z ∧ Q (.bl (decide (c ∈ z.cps.toList))) H) x y H Q) := op_in_seq.or op_in_sign
theorem o_notIn : OpR X (compareOp .NotIn) (fun x y H Q => rIn X.K true x y H Q ∨ (fun x y H Q => ∃ (c : Nat) (z : Str), x = .str ⟨#[c]⟩ ∧ y = .str z ∧ Q (.bl (!decide (c ∈ z.cps.toList))) H) x y H Q) := op_notIn_seq.or op_notIn_sign
end
end DL

namespace DL
open PySem L2 PySem.Spec PyProof.Rows

theorem RepA.atI {K : PySem.W.Frag} {B : Hp} {vs : List V} {ds : List D} {i : Int} {d : D} (r : RepA K B vs ds) (h : L2.atI ds i = some d) : ∃ v, L2.atI vs i = some v ∧ Rep K B v d := by
  unfold L2.atI at h ⊢
  rw [r.len]
  obtain ⟨j, h1, h2⟩ := bind1 h
  obtain ⟨v, h3, h4⟩ := r.get h2
  exact ⟨v, by rw [h1]; exact h3, h4⟩
def valD (kvs : List (Key × D)) (k : Key) : Option D := (kvs.find? fun kv => decide (kv.1 = k)).map (·.2)
def putD (kvs : List (Key × D)) (k : Key) (v : D) : List (Key × D) :=
  if (kvs.any fun kv => decide (kv.1 = k)) = true then kvs.map (fun kv => if kv.1 = k then (kv.1, v) else kv) else kvs ++ [(k, v)]
theorem find_cons {α β : Type} [DecidableEq α] (k k' : α) (d : β) (ds : List (α × β)) : (((k', d) :: ds).find? fun kv => decide (kv.1 = k)).map (·.2) = if k' = k then some d else (ds.find? fun kv => decide (kv.1 = k)).map (·.2) := by
  by_cases z : k' = k
  · rw [if_pos z, List.find?_cons]; simp [z]
  · rw [if_neg z, List.find?_cons]; simp [z]
theorem RepK.val {K : PySem.W.Frag} {B : Hp} {k : Key} : ∀ {vs : List (Key × V)} {ds : List (Key × D)}, RepK K B vs ds → (valD ds k = none → valV vs k = none) ∧ ∀ d, valD ds k = some d → ∃ v, valV vs k = some v ∧ Rep K B v d
  | _, _, .nil => ⟨fun _ => rfl, fun d h => by cases h⟩
  | _, _, .cons (k := k') h t => by
    have ih := RepK.val (k := k) t
    unfold valD valV at ih ⊢
    rw [find_cons, find_cons]
    by_cases z : k' = k
    · rw [if_pos z, if_pos z]
      refine ⟨fun y => (nomatch y), fun d y => ?_⟩
      cases y
      exact ⟨_, rfl, h⟩
    · rw [if_neg z, if_neg z]
      exact ih
theorem RepK.any {K : PySem.W.Frag} {B : Hp} {k : Key} : ∀ {vs : List (Key × V)} {ds : List (Key × D)}, RepK K B vs ds → (vs.any fun kv => decide (kv.1 = k)) = (ds.any fun kv => decide (kv.1 = k))
  | _, _, .nil => rfl
  | _, _, .cons h t => by rw [List.any_cons, List.any_cons, RepK.any t]
theorem RepK.mapPut {K : PySem.W.Frag} {B : Hp} {k : Key} {v : V} {d : D} (hv : Rep K B v d) : ∀ {vs : List (Key × V)} {ds : List (Key × D)}, RepK K B vs ds → RepK K B (vs.map fun kv => if kv.1 = k then (kv.1, v) else kv) (ds.map fun kv => if kv.1 = k then (kv.1, d) else kv)
  | _, _, .nil => .nil
  | _, _, .cons (k := k') h t => by
    rw [List.map_cons, List.map_cons]
    by_cases z : k' = k
    · rw [if_pos z, if_pos z]; exact .cons hv (RepK.mapPut hv t)
    · rw [if_neg z, if_neg z]; exact .cons h (RepK.mapPut hv t)
theorem RepK.app {K : PySem.W.Frag} {B : Hp} : ∀ {v w : List (Key × V)} {d e : List (Key × D)}, RepK K B v d → RepK K B w e → RepK K B (v ++ w) (d ++ e)
  | _, _, _, _, .nil, s => s
  | _, _, _, _, .cons h t, s => .cons h (RepK.app t s)
theorem RepK.put {K : PySem.W.Frag} {B : Hp} {k : Key} {v : V} {d : D} {vs : List (Key × V)} {ds : List (Key × D)} (h : RepK K B vs ds) (hv : Rep K B v d) : RepK K B (putK vs k v) (putD ds k d) := by
  unfold putK putD
  rw [h.any]
  split
  · exact h.mapPut hv
  · exact h.app (.cons hv .nil)
def keyD : D → Option Key
  | .int i => some (.inl i)
  | .str x => some (.inr x)
  | _ => none
theorem RepT.key {K : PySem.W.Frag} {B H : Hp} {v : V} {d : D} {k : Key} (h : RepT K B H v d) (hk : keyD d = some k) : v = kV k := by
  cases d with
  | int i => cases hk; exact h.int
  | str x => cases hk; exact h.str
  | _ => cases hk

/-! #### an item -/
def gIx (d c : D) : Option RV := match d with
  | .dct kvs => (keyD c).bind fun k => (valD kvs k).bind fun x => sv x
  | .lst xs => (match c with
    | .int i => (L2.atI xs i).bind fun x => sv x
    | _ => none)
  | .tup xs => (match c with
    | .int i => (L2.atI xs i).bind fun x => sv x
    | _ => none)
  | .str z => (match c with
    | .int i => if z.length ≤ sizeLine then (L2.atI z.cps.toList i).bind fun n => sv (.str ⟨#[n]⟩) else none
    | _ => none)
  | _ => none
def rDG : R2 := fun x y H Q => ∃ a v, x = .ref a ∧ DGet H a y (some v) ∧ Q v H
section
variable {X : Cx} {W : WX}
theorem ix_dict (hu : X.A.units + 1 < cLine) : IxR X rDG := by
  intro value slice pins s σ H x y v u Q I rx ry h hs
  obtain ⟨a, w, rfl, g, q⟩ := h
  obtain rfl : v = Value.ref a := rx
  exact tail_any (dict_typeIs I g) PySem.F.slot_dict_getitem.lookup (d_getItem hu I g ry fun w' s3 I3 rw' => ⟨w, H, I3, rw', q⟩) hs
theorem i_ix (hu : X.A.units + 1 < cLine) : IxR X (fun x y H Q => rIx X.K x y H Q ∨ rDG x y H Q) := ix_seq.or (ix_dict hu)
theorem p_ix : Pure2 X.K (fun x y H Q => rIx X.K x y H Q ∨ rDG x y H Q) gIx := fun B H v w d c out Q s h1 h2 hg q => by
  unfold gIx at hg
  split at hg
  · obtain ⟨k, e1, hg⟩ := bind1 hg
    obtain ⟨x, e2, hg⟩ := bind1 hg
    cases hg
    obtain ⟨a, vs, rfl, g1, r1⟩ := h1.dct s
    obtain ⟨u, e3, ru⟩ := r1.val.2 x e2
    refine .inr ⟨a, u, rfl, ?_, q_v s q ru⟩
    rw [h2.key e1, ← e3]
    exact DGet.k g1
  · split at hg
    · obtain ⟨x, e2, hg⟩ := bind1 hg
      cases hg
      obtain ⟨a, vs, rfl, g1, r1⟩ := h1.lst s
      obtain ⟨u, e3, ru⟩ := r1.atI e2
      exact .inl (.inl ⟨a, vs, _, u, rfl, h2.int, SqL.of g1, e3, q_v s q ru⟩)
    · cases hg
  · split at hg
    · obtain ⟨x, e2, hg⟩ := bind1 hg
      cases hg
      obtain ⟨a, vs, rfl, g1, r1⟩ := h1.tup s
      obtain ⟨u, e3, ru⟩ := r1.atI e2
      exact .inl (.inr (.inl ⟨a, vs, _, u, rfl, h2.int, g1, e3, q_v s q ru⟩))
    · cases hg
  · split at hg
    · split at hg
      · obtain ⟨x, e2, hg⟩ := bind1 hg
        cases hg
        rename_i z
        exact .inl (.inr (.inr ⟨_, _, x, h1.str, h2.int, z, e2, q_v s q (.str _)⟩))
      · cases hg
    · cases hg
  · cases hg

/-! #### slices -/
def cutD (xs : List D) (lo hi : Option Int) : List D := (xs.drop (HT.sIx xs.length 0 lo)).take (HT.sIx xs.length xs.length hi - HT.sIx xs.length 0 lo)
def gSl (d : D) (lo hi : Option Int) : Option RV := match d with
  | .lst xs => some (.m (.l (cutD xs lo hi)))
  | .fl xs => some (.m (.l (cutD xs lo hi)))
  | .tup xs => sv (.tup (cutD xs lo hi))
  | .str z => if z.length ≤ sizeLine then sv (.str (cutS z lo hi)) else none
  | _ => none
theorem RepA.cut {K : PySem.W.Frag} {B : Hp} {vs : List V} {ds : List D} (r : RepA K B vs ds) (lo hi : Option Int) : RepA K B (cutV vs lo hi) (cutD ds lo hi) := by
  unfold cutV cutD
  rw [r.len]
  exact (r.drop _).take _
theorem p_sl (s : Same B H) {v : V} {d : D} {lo hi : Option Int} {out : RV} {Q : VK} (h1 : RepT X.K B H v d) (hg : gSl d lo hi = some out) (q : ∀ v' B' H', Grow B H B' H' → OutOk X.K H B' H' out v' → Q v' H') :
    rSlL X.K v lo hi H Q ∨ rSlA X.K v lo hi H Q ∨ rSlS v lo hi H Q := by
  unfold gSl at hg
  split at hg
  · cases hg
    obtain ⟨a, vs, rfl, g1, r1⟩ := h1.lst s
    exact .inl ⟨a, vs, rfl, SqL.of g1, q_l s q (r1.cut lo hi)⟩
  · cases hg
    obtain ⟨a, vs, rfl, g1, r1⟩ := h1.fl s
    exact .inl ⟨a, vs, rfl, g1, q_l s q (r1.cut lo hi)⟩
  · cases hg
    obtain ⟨a, vs, rfl, g1, r1⟩ := h1.tup s
    refine .inr (.inl ⟨a, vs, rfl, g1, fun e => ?_, fun _ => q_t s q (r1.cut lo hi)⟩)
    rename_i xs
    have e1 : cutD xs lo hi = xs := by
      unfold cutD
      rw [← r1.len, e.1, e.2, List.drop_zero, Nat.sub_zero, r1.len, List.take_length]
    rw [e1] at q
    rcases h1 with h1 | ⟨_, _, m, _, _, _, y⟩
    · exact q_v s q h1
    · cases m <;> cases y
  · split at hg
    · cases hg
      rename_i z
      exact .inr (.inr ⟨_, h1.str, z, q_v s q (.str _)⟩)
    · cases hg
  · cases hg
/-- x[lo:hi] -/
def eSl (f : Env → Res RV) (lo hi : Option (Env → Res RV)) : Env → Res RV := fun e => (f e).bind fun x e1 =>
  let part (o : Option (Env → Res RV)) (e : Env) : Res (Option Int) := match o with
    | none => .ok none e
    | some g => (g e).bind fun y e2 => match peek e2 y with
      | some (.int i) => .ok (some i) e2
      | _ => .no
  (part lo e1).bind fun l e2 => (part hi e2).bind fun h e3 => giv e3 ((peek e3 x).bind fun d => gSl d l h)
def ePart (o : Option (Env → Res RV)) : Env → Res (Option Int) := fun e => match o with
    | none => .ok none e
    | some g => (g e).bind fun y e2 => match peek e2 y with
      | some (.int i) => .ok (some i) e2
      | _ => .no
def vO : Vw (Option Int) (Option Int) := ⟨fun _ _ _ _ _ b c => c = b⟩
abbrev rdO := @rd (Option Int) (Option Int) vO
def DO (X : Cx) (W : WX) (o : Option Expr) (f : Env → Res (Option Int)) : Prop := PO X o (rdO W X.K f)
theorem PO.weak {o : Option Expr} {t t' : TO} (h : PO X o t) (w : ∀ σ H Q, t' σ H Q → t σ H Q) : PO X o t' := ⟨fun pins s σ H Q I q => h.run pins s σ H Q I (w σ H Q q)⟩
theorem do_none : DO X W none (ePart none) := PO.weak po_none fun σ H Q ⟨G, B, e, hK, R, q⟩ => q none H B R.rebase rfl
theorem do_some {a : Expr} {f : Env → Res RV} (h : DE X W a f) : DO X W (some a) (ePart (some f)) := PO.weak (po_some h) fun σ H Q ⟨G, B, e, hK, R, q⟩ => by
  refine ⟨G, B, e, hK, R, post.bind q fun y e2 v H1 B1 R1 P1 q => ?_⟩
  split at q
  · rename_i i hp
    have t1 := RepR.top R1 P1 hp
    exact ⟨i, t1.int, q _ H1 B1 R1 rfl⟩
  · exact q.elim
theorem de_slice {a : Expr} {lo hi : Option Expr} {pos p2 : Pos} {f : Env → Res RV} {l h : Option (Env → Res RV)} (ha : DE X W a f) (hl : DO X W lo (ePart l)) (hh : DO X W hi (ePart h)) : DE X W (.Subscript a (.Slice lo hi none p2) pos) (eSl f l h) :=
  PE.weak (pe_slice ((sl_list (X := X)).or ((sl_tupA (X := X)).or sl_str)) ha hl hh) fun σ H Q ⟨G, B, e, hK, R, q⟩ => by
    refine ⟨G, B, e, hK, R, post.bind q fun x e1 v H1 B1 R1 P1 q => ?_⟩
    have q : post vR W G B H σ e Q ((ePart l e1).bind fun l e2 => (ePart h e2).bind fun h e3 => giv e3 ((peek e3 x).bind fun d => gSl d l h)) := q
    refine ⟨G.at B H (Owned σ e), B1, e1, hK, R1, post.bindS R1 q fun lo e2 w H2 B2 R2 S2 P2 q => ?_⟩
    cases P2
    refine ⟨G.at B H (Owned σ e), B2, e2, hK, R2, post.bindS R2 q fun hi e3 w H3 B3 R3 S3 P3 q => ?_⟩
    cases P3
    obtain ⟨out, ho, q⟩ := giv_post R3 q
    obtain ⟨d, h1, h2⟩ := bind1 ho
    have t1 := RepR.top R3 (RepR.keep R2 (RepR.keep R1 P1 S2) S3) h1
    have q : ∀ v' B' H', Grow B3 H3 B' H' → OutOk X.K H3 B' H' out v' → Q v' H' := fun v' B' H' g o => q v' B' H' g (hK.symm ▸ o)
    exact p_sl R3.bh (hK ▸ t1) h2 q

/-! #### functions of the language -/
def gLen : List D → Option RV
  | [.lst xs] => sv (.int xs.length)
  | [.tup xs] => sv (.int xs.length)
  | [.str x] => if x.length ≤ sizeLine then sv (.int x.length) else none
  | _ => none
theorem p_len : PureN X.K (fun xs H Q => ∃ x n, xs = [x] ∧ LenV X.K x H n ∧ Q (.int n) H) gLen := fun B H vs ds out Q s h hg q => by
  unfold gLen at hg
  split at hg
  · cases hg
    cases h with
    | cons h1 h2 =>
      cases h2
      obtain ⟨a, ws, rfl, g1, r1⟩ := h1.lst s
      exact ⟨_, ws.length, rfl, .inl ⟨ws, SqL.of g1, rfl⟩, by rw [r1.len]; exact q_v s q (.int _)⟩
  · cases hg
    cases h with
    | cons h1 h2 =>
      cases h2
      obtain ⟨a, ws, rfl, g1, r1⟩ := h1.tup s
      exact ⟨_, ws.length, rfl, .inr ⟨ws, g1, rfl⟩, by rw [r1.len]; exact q_v s q (.int _)⟩
  · split at hg
    · cases hg
      rename_i z
      cases h with
      | cons h1 h2 =>
        cases h2
        rw [h1.str]
        exact ⟨_, _, rfl, ⟨z, rfl⟩, q_v s q (.int _)⟩
    · cases hg
  · cases hg
def intsD : List D → Option (List Int)
  | [] => some []
  | .int i :: ds => (intsD ds).bind fun is => some (i :: is)
  | _ :: _ => none
theorem ints_rep {K : PySem.W.Frag} {B : Hp} : ∀ {vs : List V} {ds : List D} {is : List Int}, RepA K B vs ds → intsD ds = some is → vs = is.map V.int
  | _, _, _, .nil, h => by cases h; rfl
  | _, .int i :: ds, _, .cons h t, hi => by
    obtain ⟨js, h1, h2⟩ := bind1 hi
    cases h2
    cases h
    rw [ints_rep t h1]
    rfl
  | _, .non :: _, _, .cons _ _, hi => by cases hi
  | _, .bl _ :: _, _, .cons _ _, hi => by cases hi
  | _, .str _ :: _, _, .cons _ _, hi => by cases hi
  | _, .lst _ :: _, _, .cons _ _, hi => by cases hi
  | _, .tup _ :: _, _, .cons _ _, hi => by cases hi
  | _, .dct _ :: _, _, .cons _ _, hi => by cases hi
  | _, .obj _ _ :: _, _, .cons _ _, hi => by cases hi
  | _, .ty _ :: _, _, .cons _ _, hi => by cases hi
  | _, .cls _ :: _, _, .cons _ _, hi => by cases hi
  | _, .exn _ _ :: _, _, .cons _ _, hi => by cases hi
  | _, .fl _ :: _, _, .cons _ _, hi => by cases hi
def gSum : List D → Option RV
  | [.lst xs] => (intsD xs).bind fun is => sv (.int is.sum)
  | [.fl xs] => (intsD xs).bind fun is => sv (.int is.sum)
  | _ => none
theorem p_sum : PureN X.K (rSum X.K) gSum := fun B H vs ds out Q s h hg q => by
  unfold gSum at hg
  split at hg
  · obtain ⟨is, e1, e2⟩ := bind1 hg
    cases e2
    cases h with
    | cons h1 h2 =>
      cases h2
      obtain ⟨a, ws, rfl, g1, r1⟩ := h1.lst s
      exact ⟨a, is, rfl, by rw [← ints_rep r1 e1]; exact SqL.of g1, q_v s q (.int _)⟩
  · obtain ⟨is, e1, e2⟩ := bind1 hg
    cases e2
    cases h with
    | cons h1 h2 =>
      cases h2
      obtain ⟨a, ws, rfl, g1, r1⟩ := h1.fl s
      exact ⟨a, is, rfl, by rw [← ints_rep r1 e1]; exact g1, q_v s q (.int _)⟩
  · cases hg
def blsD : List D → Option (List Bool)
  | [] => some []
  | .bl i :: ds => (blsD ds).bind fun is => some (i :: is)
  | _ :: _ => none
theorem bls_rep {K : PySem.W.Frag} {B : Hp} : ∀ {vs : List V} {ds : List D} {is : List Bool}, RepA K B vs ds → blsD ds = some is → vs = is.map V.bl
  | _, _, _, .nil, h => by cases h; rfl
  | _, .bl i :: ds, _, .cons h t, hi => by
    obtain ⟨js, h1, h2⟩ := bind1 hi
    cases h2
    cases h
    rw [bls_rep t h1]
    rfl
  | _, .non :: _, _, .cons _ _, hi => by cases hi
  | _, .int _ :: _, _, .cons _ _, hi => by cases hi
  | _, .str _ :: _, _, .cons _ _, hi => by cases hi
  | _, .lst _ :: _, _, .cons _ _, hi => by cases hi
  | _, .tup _ :: _, _, .cons _ _, hi => by cases hi
  | _, .dct _ :: _, _, .cons _ _, hi => by cases hi
  | _, .obj _ _ :: _, _, .cons _ _, hi => by cases hi
  | _, .ty _ :: _, _, .cons _ _, hi => by cases hi
  | _, .cls _ :: _, _, .cons _ _, hi => by cases hi
  | _, .exn _ _ :: _, _, .cons _ _, hi => by cases hi
  | _, .fl _ :: _, _, .cons _ _, hi => by cases hi
def gAll : List D → Option RV
  | [.lst xs] => (blsD xs).bind fun is => sv (.bl (is.all id))
  | _ => none
theorem p_all : PureN X.K (rAll X.K) gAll := fun B H vs ds out Q s h hg q => by
  unfold gAll at hg
  split at hg
  · obtain ⟨is, e1, e2⟩ := bind1 hg
    cases e2
    cases h with
    | cons h1 h2 =>
      cases h2
      obtain ⟨a, ws, rfl, g1, r1⟩ := h1.lst s
      exact ⟨a, is, rfl, by rw [← bls_rep r1 e1]; exact SqL.of g1, q_v s q (.bl _)⟩
  · cases hg
def gStr : List D → Option RV
  | [.int i] => if i.natAbs.log2 < 1920 then sv (.str (toString i)) else none
  | _ => none
theorem p_str : PureN X.K (fun xs H Q => ∃ i, xs = [.int i] ∧ i.natAbs.log2 < 1920 ∧ Q (.str (toString i)) H) gStr := fun B H vs ds out Q s h hg q => by
  unfold gStr at hg
  split at hg
  · split at hg
    · cases hg
      rename_i z
      cases h with
      | cons h1 h2 =>
        cases h2
        exact ⟨_, by rw [h1.int], z, q_v s q (.str _)⟩
    · cases hg
  · cases hg
def gInt : List D → Option RV
  | [.str x] => if x.length ≤ 640 then (PySem.intText? x).bind fun n => sv (.int n) else none
  | _ => none
theorem p_int : PureN X.K (fun xs H Q => ∃ a n, xs = [.str a] ∧ PySem.intText? a = some n ∧ a.length ≤ 640 ∧ Q (.int n) H) gInt := fun B H vs ds out Q s h hg q => by
  unfold gInt at hg
  split at hg
  · split at hg
    · obtain ⟨n, e1, e2⟩ := bind1 hg
      cases e2
      rename_i z
      cases h with
      | cons h1 h2 =>
        cases h2
        exact ⟨_, n, by rw [h1.str], e1, z, q_v s q (.int _)⟩
    · cases hg
  · cases hg
def gTuple : List D → Option RV
  | [.lst xs] => sv (.tup xs)
  | [.tup xs] => sv (.tup xs)
  | _ => none
theorem p_tuple : PureN X.K (fun xs H Q => ∃ p ys, xs = [.ref p] ∧ ((SqL X.K H p ys ∧ ∀ l, H l = none → Q (.ref l) (upd H l (.tup ys))) ∨ (SqT X.K H p ys ∧ Q (.ref p) H))) gTuple := fun B H vs ds out Q s h hg q => by
  unfold gTuple at hg
  split at hg
  · cases hg
    cases h with
    | cons h1 h2 =>
      cases h2
      obtain ⟨a, ws, rfl, g1, r1⟩ := h1.lst s
      exact ⟨a, ws, rfl, .inl ⟨SqL.of g1, q_t s q r1⟩⟩
  · cases hg
    cases h with
    | cons h1 h2 =>
      cases h2
      obtain ⟨a, ws, rfl, g1, r1⟩ := h1.tup s
      refine ⟨a, ws, rfl, .inr ⟨g1, ?_⟩⟩
      rcases h1 with h1 | ⟨_, _, m, _, _, _, y⟩
      · exact q_v s q h1
      · cases m <;> cases y
  · cases hg
def gList : List D → Option RV
  | [.lst xs] => some (.m (.l xs))
  | [.tup xs] => some (.m (.l xs))
  | _ => none
theorem p_list : PureN X.K (fun xs H Q => ∃ p ys, xs = [.ref p] ∧ (SqL X.K H p ys ∨ SqT X.K H p ys) ∧ ∀ l, H l = none → Q (.ref l) (upd H l (.lst ys))) gList := fun B H vs ds out Q s h hg q => by
  unfold gList at hg
  split at hg
  · cases hg
    cases h with
    | cons h1 h2 =>
      cases h2
      obtain ⟨a, ws, rfl, g1, r1⟩ := h1.lst s
      exact ⟨a, ws, rfl, .inl (SqL.of g1), q_l s q r1⟩
  · cases hg
    cases h with
    | cons h1 h2 =>
      cases h2
      obtain ⟨a, ws, rfl, g1, r1⟩ := h1.tup s
      exact ⟨a, ws, rfl, .inr g1, q_l s q r1⟩
  · cases hg
/-- the class of a value that is told -/
def tyD : D → Option String
  | .non => some "NoneType"
  | .bl _ => some "bool"
  | .int _ => some "int"
  | .str _ => some "str"
  | .lst _ => some "list"
  | .tup _ => some "tuple"
  | .dct _ => some "dict"
  | _ => none
theorem Rep.tyx {H : Hp} {v : V} {d : D} {t : String} (h : Rep X.K H v d) (e : tyD d = some t) : TyX X.K H v (.type t) := by
  cases h with
  | non => cases e; exact .base .non
  | bl b => cases e; exact .base (.bl b)
  | int b => cases e; exact .base (.int b)
  | str b => cases e; exact .base (.str b)
  | lst h _ => cases e; exact .base (.lst h)
  | tup h _ =>
    cases e
    rcases h with (h | ⟨o, h⟩) | ⟨o, its, n, h1, h2, _⟩
    · exact .base (.tup h)
    · exact .fTuple h
    · exact .kTuple h1 h2
  | dct h _ => cases e; exact .base (.dK h)
  | _ => cases e
def gIsi : List D → Option RV
  | [d, .ty n] => (tyD d).bind fun t => (kitB t n).bind fun b => sv (.bl b)
  | _ => none
theorem p_isi : PureN X.K (rIsi X.K) gIsi := fun B H vs ds out Q s h hg q => by
  unfold gIsi at hg
  split at hg
  · obtain ⟨t, e1, e2⟩ := bind1 hg
    obtain ⟨b, e3, e4⟩ := bind1 e2
    cases e4
    cases h with
    | cons h1 h2 =>
      cases h2 with
      | cons h2 h3 =>
        cases h3
        exact ⟨_, .ty _, .type t, .type _, b, by rw [h2.ty], .ty _, Rep.tyx (h1.rep s) e1, kit_ty e3, q_v s q (.bl _)⟩
  · cases hg
end
end DL

namespace DL
open PySem L2 PySem.Spec PyProof.Rows

/-! #### methods of texts -/
def eM1 (g : Str → D → Option RV) (fo fe : Env → Res RV) : Env → Res RV := fun e => (fo e).bind fun x e1 => match peek e1 x with
  | some (.str a) => (fe e1).bind fun y e2 => giv e2 ((peek e2 y).bind fun d => g a d)
  | _ => .no
def PureM (K : PySem.W.Frag) (r : V → List V → Hp → VK → Prop) (g : Str → D → Option RV) : Prop := ∀ (B H : Hp) (a : Str) (w : V) (d : D) (out : RV) (Q : VK), Same B H → RepT K B H w d → g a d = some out →
  (∀ v' B' H', Grow B H B' H' → OutOk K H B' H' out v' → Q v' H') → r (.str a) [w] H Q
def strsD : List D → Option (List Str)
  | [] => some []
  | .str x :: ds => (strsD ds).bind fun xs => some (x :: xs)
  | _ :: _ => none
theorem strs_rep {K : PySem.W.Frag} {B : Hp} : ∀ {vs : List V} {ds : List D} {is : List Str}, RepA K B vs ds → strsD ds = some is → vs = is.map V.str
  | _, _, _, .nil, h => by cases h; rfl
  | _, .str i :: ds, _, .cons h t, hi => by
    obtain ⟨js, h1, h2⟩ := bind1 hi
    cases h2
    cases h
    rw [strs_rep t h1]
    rfl
  | _, .non :: _, _, .cons _ _, hi => by cases hi
  | _, .bl _ :: _, _, .cons _ _, hi => by cases hi
  | _, .int _ :: _, _, .cons _ _, hi => by cases hi
  | _, .lst _ :: _, _, .cons _ _, hi => by cases hi
  | _, .tup _ :: _, _, .cons _ _, hi => by cases hi
  | _, .dct _ :: _, _, .cons _ _, hi => by cases hi
  | _, .obj _ _ :: _, _, .cons _ _, hi => by cases hi
  | _, .ty _ :: _, _, .cons _ _, hi => by cases hi
  | _, .cls _ :: _, _, .cons _ _, hi => by cases hi
  | _, .exn _ _ :: _, _, .cons _ _, hi => by cases hi
  | _, .fl _ :: _, _, .cons _ _, hi => by cases hi
theorem rep_strs {K : PySem.W.Frag} {B : Hp} : ∀ (ys : List Str), RepA K B (ys.map V.str) (ys.map D.str)
  | [] => .nil
  | y :: ys => .cons (.str y) (rep_strs ys)
def gJoin (a : Str) (d : D) : Option RV := match d with
  | .lst xs => (strsD xs).bind fun ys => if (ys.map (·.length)).sum + ys.length * a.length ≤ 16777216 then sv (.str (Txt.join a ys)) else none
  | _ => none
def gSplit (a : Str) (d : D) : Option RV := match d with
  | .str b => if (b.length == 0) = false ∧ a.length + 2 ≤ sizeLine then some (.m (.l ((Txt.split a b).map D.str))) else none
  | _ => none
section
variable {X : Cx} {W : WX}
theorem rdM1 {fo fe : Env → Res RV} {g : Str → D → Option RV} {K : PySem.W.Frag} {r : V → List V → Hp → VK → Prop} (hp : PureM K r g) (σ : L2.St) (H : Hp) (Q : VK) (h : rdE W K (eM1 g fo fe) σ H Q) : tM1 r (rdE W K fo) (rdE W K fe) σ H Q := by
  obtain ⟨G, B, e, hK, R, q⟩ := h
  subst hK
  refine ⟨G, B, e, rfl, R, post.bind q fun x e1 v H1 B1 R1 P1 q => ?_⟩
  split at q
  · rename_i a hp1
    have t1 := RepR.top R1 P1 hp1
    have ea := t1.str
    subst ea
    refine ⟨⟨a, rfl⟩, G.at B H (Owned σ e), B1, e1, rfl, R1, post.bindS R1 q fun y e2 w H2 B2 R2 S2 P2 q => ?_⟩
    obtain ⟨out, ho, q⟩ := giv_post R2 q
    obtain ⟨d, h1, h2⟩ := bind1 ho
    have t2 := RepR.top R2 (RepR.back R1 P2) h1
    exact hp B2 H2 a w d out Q R2.bh t2 h2 q
  · exact q.elim
theorem p_join : PureM X.K (fun x xs H Q => ∃ a p, ∃ ys : List Str, x = .str a ∧ xs = [.ref p] ∧ (SqL X.K H p (ys.map V.str) ∨ SqT X.K H p (ys.map V.str)) ∧ (ys.map (·.length)).sum + ys.length * a.length ≤ 16777216 ∧ Q (.str (Txt.join a ys)) H) gJoin :=
  fun B H a w d out Q s h hg q => by
    unfold gJoin at hg
    split at hg
    · obtain ⟨ys, e1, e2⟩ := bind1 hg
      split at e2
      · cases e2
        rename_i z
        obtain ⟨p, ws, rfl, g1, r1⟩ := h.lst s
        exact ⟨a, p, ys, rfl, rfl, .inl (by rw [← strs_rep r1 e1]; exact SqL.of g1), z, q_v s q (.str _)⟩
      · cases e2
    · cases hg
theorem p_split : PureM X.K (fun x xs H Q => ∃ a b, x = .str a ∧ xs = [.str b] ∧ (b.length == 0) = false ∧ a.length + 2 ≤ sizeLine ∧ rNewStrs (Txt.split a b) H Q) gSplit := fun B H a w d out Q s h hg q => by
  unfold gSplit at hg
  split at hg
  · split at hg
    · cases hg
      rename_i z
      exact ⟨a, _, rfl, by rw [h.str], z.1, z.2, q_l s q (rep_strs _)⟩
    · cases hg
  · cases hg
theorem de_join {o a : Expr} {apos pos : Pos} {fo fa : Env → Res RV} (ho : DE X W o fo) (ha : DE X W a fa) (hs : starEach [a] X.env = [(false, eval a X.env)] := by rfl) (hbase : attributeBase o "join" X.env (eval o X.env) = eval o X.env := by rfl) (hline : (apos.endLine == pos.line) = true := by rfl) :
    DE X W (.Call (.Attribute o "join" apos) [a] [] pos) (eM1 gJoin fo fa) := PE.weak (pe_join ho ha hs hbase hline) fun σ H Q h => rdM1 p_join σ H Q h
theorem de_split {o a : Expr} {apos pos : Pos} {fo fa : Env → Res RV} (ho : DE X W o fo) (ha : DE X W a fa) (hs : starEach [a] X.env = [(false, eval a X.env)] := by rfl) (hbase : attributeBase o "split" X.env (eval o X.env) = eval o X.env := by rfl) (hline : (apos.endLine == pos.line) = true := by rfl) :
    DE X W (.Call (.Attribute o "split" apos) [a] [] pos) (eM1 gSplit fo fa) := PE.weak (pe_split ho ha hs hbase hline) fun σ H Q h => rdM1 p_split σ H Q h

/-! #### f-strings -/
def eFmt (f : Env → Res RV) : Env → Res RV := fun e => (f e).bind fun x e1 => match peek e1 x with
  | some (.str y) => if y.length ≤ sizeLine then .ok (.v (.str y)) e1 else .no
  | some (.int i) => if i.natAbs.log2 < 1920 then .ok (.v (.str (toString i))) e1 else .no
  | _ => .no
def eJs : List (Env → Res RV) → Str → Env → Res RV
  | [], acc => fun e => .ok (.v (.str acc)) e
  | f :: fs, acc => fun e => (f e).bind fun x e1 => match x with
    | .v (.str y) => if (acc ++ y).length ≤ sizeLine then eJs fs (acc ++ y) e1 else .no
    | _ => .no
theorem de_fmt {a : Expr} {pos : Pos} {f : Env → Res RV} (h : DE X W a f) : DE X W (.FormattedValue a (-1) none pos) (eFmt f) := PE.weak (pe_fmt h) fun σ H Q ⟨G, B, e, hK, R, q⟩ => by
  refine ⟨G, B, e, hK, R, post.bind q fun x e1 v H1 B1 R1 P1 q => ?_⟩
  split at q
  · rename_i y hp
    have t1 := RepR.top R1 P1 hp
    split at q
    · rename_i z
      exact .inl ⟨y, t1.str, z, q _ H1 B1 R1 (show Rep G.K _ _ _ from .str y)⟩
    · exact q.elim
  · rename_i i hp
    have t1 := RepR.top R1 P1 hp
    split at q
    · rename_i z
      exact .inr ⟨i, t1.int, z, q _ H1 B1 R1 (show Rep G.K _ _ _ from .str _)⟩
    · exact q.elim
  · exact q.elim
/-- the parts of an f-string -/
inductive DJ (X : Cx) (W : WX) : List Expr → List (Env → Res RV) → Prop where
  | nil : DJ X W [] []
  | cons {a : Expr} {f : Env → Res RV} {es : List Expr} {fs : List (Env → Res RV)} (h : DE X W a f) (r : DJ X W es fs) : DJ X W (a :: es) (f :: fs)
theorem DJ.pj {es : List Expr} {fs : List (Env → Res RV)} (h : DJ X W es fs) : PJ X es (fs.map (rdE W X.K)) := by
  induction h with
  | nil => exact .nil
  | cons h _ ih => exact .cons h ih
theorem rdJs {K : PySem.W.Frag} (Q : VK) : ∀ (fs : List (Env → Res RV)) (acc : Str) (σ : L2.St) (H : Hp), rdE W K (eJs fs acc) σ H Q → tJs (fs.map (rdE W K)) acc σ H fun out H1 => Q (.str out) H1
  | [], acc, σ, H, ⟨G, B, e, hK, R, q⟩ => q _ H B R.rebase (show Rep G.K _ _ _ from .str acc)
  | f :: fs, acc, σ, H, ⟨G, B, e, hK, R, q⟩ => by
    refine ⟨G, B, e, hK, R, post.bind q fun x e1 v H1 B1 R1 P1 q => ?_⟩
    split at q
    · rename_i y
      split at q
      · rename_i z
        cases (show Rep _ _ _ _ from P1)
        exact ⟨y, rfl, z, rdJs Q fs (acc ++ y) σ H1 ⟨G.at B H (Owned σ e), B1, e1, hK, R1, post.shift R1 (bkR R1) q⟩⟩
      · exact q.elim
    · exact q.elim
theorem de_joined {v1 v2 : Expr} {rest : List Expr} {fs : List (Env → Res RV)} {pos : Pos} (h : DJ X W (v1 :: v2 :: rest) fs) : DE X W (.JoinedStr (v1 :: v2 :: rest) pos) (eJs fs Str.empty) :=
  PE.weak (pe_joined h.pj) fun σ H Q h => rdJs Q fs Str.empty σ H h
theorem de_joined1 {a : Expr} {f : Env → Res RV} {pos : Pos} (h : DE X W a f) : DE X W (.JoinedStr [a] pos) f := pe_joined1 h

/-! #### repr -/
theorem call_reprD (hg : X.A.guards = some []) (hu : X.A.units + 100 < cLine) : CallR X (.builtin "repr") (fun xs H Q => ∃ x p, xs = [x] ∧ Dp X.K H x p ∧ p.showable = true ∧ p.hasDict = false ∧ p.depth ≤ 64 ∧ p.shown.length ≤ sizeLine ∧ Q (.str p.shown) H) := by
  intro pins st σ H xs us Q I rv h
  obtain ⟨x, p, rfl, hd, hs, hn, hp, hz, q⟩ := h
  obtain ⟨u, rfl, ru⟩ := rv.one
  obtain ⟨as, rds⟩ := Dp.reads I p x u hd ru
  have here : ∀ {tk : Nat} {t : Tok}, EP X pins σ Q (.str p.shown t) { st with toks := tk } := fun {tk t} => ⟨.str p.shown, H, I.tok _, ⟨_, rfl⟩, q⟩
  cases hd with
  | non => cases ru; exact PySem.P.repr_of_none here
  | bl b => cases ru; exact PySem.P.repr_of_bool here
  | int i =>
    obtain ⟨t, rfl⟩ := ru
    exact PySem.P.repr_of_int (of_decide_eq_true hs) here
  | str z =>
    obtain ⟨t, rfl⟩ := ru
    exact PySem.P.repr_of_str here hz
  | lst h1 h2 =>
    cases ru
    exact PySem.repr_of_reads' rds hs (PyData.noDict_hsm hn) hg (by omega) (fun _ _ z => z) (fun h' u tk hk => ⟨.str _, H, I.kept hk, ⟨_, rfl⟩, q⟩) hz
  | tup h1 h2 =>
    cases ru
    exact PySem.repr_of_reads' rds hs (PyData.noDict_hsm hn) hg (by omega) (fun _ _ z => z) (fun h' u tk hk => ⟨.str _, H, I.kept hk, ⟨_, rfl⟩, q⟩) hz
def gRepr : List D → Option RV
  | [d] => d.py.bind fun p => if p.showable = true ∧ p.hasDict = false ∧ p.depth ≤ 64 ∧ p.shown.length ≤ sizeLine then sv (.str p.shown) else none
  | _ => none
theorem p_repr : PureN X.K (fun xs H Q => ∃ x p, xs = [x] ∧ Dp X.K H x p ∧ p.showable = true ∧ p.hasDict = false ∧ p.depth ≤ 64 ∧ p.shown.length ≤ sizeLine ∧ Q (.str p.shown) H) gRepr := fun B H vs ds out Q s h hg q => by
  unfold gRepr at hg
  split at hg
  · obtain ⟨p, e1, e2⟩ := bind1 hg
    split at e2
    · cases e2
      rename_i z
      cases h with
      | cons h1 h2 =>
        cases h2
        exact ⟨_, p, rfl, Rep.dp (h1.rep s) e1, z.1, z.2.1, z.2.2.1, z.2.2.2, q_v s q (.str _)⟩
    · cases e2
  · cases hg

/-! #### own lists and dicts that turn -/
/-- a list's method: what it holds, the arguments; what it holds behind, what is told -/
def eMut (g : List D → List D → Option (List D × D)) (i : Nat) (fs : List (Env → Res RV)) : Env → Res RV := fun e => match e[i]? with
  | some (.o _ _ (.l _)) => (eDs fs e).bind fun ds e1 => match e1[i]? with
    | some (.o p false (.l xs)) => match g xs ds with
      | some (ys, out) => .ok (.v out) (e1.set i (.o p false (.l ys)))
      | none => .no
    | _ => .no
  | _ => .no
def MutOk (K : PySem.W.Frag) (r : V → List V → Hp → VK → Prop) (g : List D → List D → Option (List D × D)) : Prop := ∀ (B H : Hp) (a : Addr) (vs ws : List V) (xs ds ys : List D) (out : D) (Q : VK), Same B H → H a = some (.lst vs) → B a = none → RepA K B vs xs → RepA K B ws ds → g xs ds = some (ys, out) →
  (∀ us v, RepA K B us ys → Rep K B v out → Q v (upd H a (.lst us))) → r (.ref a) ws H Q
theorem turn_list {G : Gm} {B H : Hp} {σ : L2.St} {e : Env} {i : Nat} {p q : Bool} {m m' : M} {a : Addr} {o : HO} (R : Rel G B H σ e) (h : e[i]? = some (.o p q m)) (hσ : σ[i]? = some (some (.ref a))) (hb : B a = none) (mo : MOk G.K B m' o) : Rel G B (upd H a o) σ (e.set i (.o p q m')) :=
  R.turn h hσ (Same.refl B) (fun b u z => by rw [upd_ne (ne_of_none z hb)]; exact R.bh b u z) (fun b z => by
    by_cases w : b = a
    · subst w; rw [upd_same] at z; cases z
    · rw [upd_ne w] at z; exact z) (fun b u z n => by rw [upd_ne n]; exact z) (fun _ _ _ _ z => z) upd_same mo hb
theorem rdMut {K : PySem.W.Frag} {r : V → List V → Hp → VK → Prop} {g : List D → List D → Option (List D × D)} {i : Nat} {fs : List (Env → Res RV)} (hp : MutOk K r g) (σ : L2.St) (H : Hp) (Q : VK) (h : rdE W K (eMut g i fs) σ H Q) : tBM K "list" r (tVar i) (rdD W K (eDs fs)) σ H Q := by
  obtain ⟨G, B, e, hK, R, q⟩ := h
  subst hK
  have q : post vR W G B H σ e Q (match e[i]? with
    | some (.o _ _ (.l _)) => (eDs fs e).bind fun ds e1 => match e1[i]? with
      | some (.o p false (.l xs)) => match g xs ds with
        | some (ys, out) => .ok (.v out) (e1.set i (.o p false (.l ys)))
        | none => .no
      | _ => .no
    | _ => .no) := q
  split at q
  case h_2 => exact q.elim
  rename_i io lk xs0 he
  obtain ⟨a, o, e1, e2, ⟨vs0, rfl, r0⟩, e4, e5, e6⟩ := R.sl i _ he
  refine ⟨.ref a, e1, .inl ⟨rfl, vs0, SqL.of e2⟩, G, B, e, rfl, R, post.bind q fun ds e1' ws H1 B1 R1 P1 q => ?_⟩
  split at q
  case h_2 => exact q.elim
  rename_i p xs he1
  split at q
  case h_2 => exact q.elim
  rename_i ys out hg
  obtain ⟨a', o', f1, f2, ⟨vs, rfl, r1⟩, f4, f5, f6⟩ := R1.sl i _ he1
  rw [e1] at f1
  cases f1
  refine hp B1 H1 a vs ws xs ds ys out Q R1.bh f2 f4 r1 P1 hg fun us v ru rv => ?_
  exact q v _ B1 (turn_list R1 he1 e1 f4 ⟨us, rfl, ru⟩) (show Rep G.K _ _ _ from rv)
def gAppend : List D → List D → Option (List D × D)
  | xs, [d] => if xs.length < sizeLine then some (xs ++ [d], .non) else none
  | _, _ => none
def gExtend : List D → List D → Option (List D × D)
  | xs, [.lst ys] => if xs.length + ys.length ≤ sizeLine then some (xs ++ ys, .non) else none
  | _, _ => none
def gPop0 : List D → List D → Option (List D × D)
  | x :: xs, [.int 0] => some (xs, x)
  | _, _ => none
theorem m_append {K : PySem.W.Frag} : MutOk K rAppend gAppend := fun B H a vs ws xs ds ys out Q s ha hb rx rd hg q => by
  unfold gAppend at hg
  split at hg
  · split at hg
    · cases hg
      rename_i z
      cases rd with
      | cons h1 h2 =>
        cases h2
        exact ⟨a, vs, _, rfl, rfl, ha, by rw [rx.len]; exact z, q _ .non (rx.app (.cons h1 .nil)) .non⟩
    · cases hg
  · cases hg
theorem m_extend {K : PySem.W.Frag} : MutOk K rExtend gExtend := fun B H a vs ws xs ds ys out Q s ha hb rx rd hg q => by
  unfold gExtend at hg
  split at hg
  · split at hg
    · cases hg
      rename_i z
      cases rd with
      | cons h1 h2 =>
        cases h2
        cases h1 with
        | lst hl hr => exact ⟨a, _, vs, _, rfl, rfl, ha, s _ _ hl, by rw [rx.len, hr.len]; exact z, q _ .non (rx.app hr) .non⟩
    · cases hg
  · cases hg
theorem m_pop0 {K : PySem.W.Frag} : MutOk K rPopAt gPop0 := fun B H a vs ws xs ds ys out Q s ha hb rx rd hg q => by
  unfold gPop0 at hg
  split at hg
  · cases hg
    cases rd with
    | cons h1 h2 =>
      cases h2
      cases h1
      cases rx with
      | cons g1 g2 =>
        rename_i v vs'
        refine ⟨a, v :: vs', 0, 0, v, rfl, rfl, ha, by decide, by decide, ?_, rfl, ?_⟩
        · unfold seqIndex?
          simp
        · exact q _ v g2 g1
  · cases hg
theorem de_append {o a : Expr} {i : Nat} {apos cpos : Pos} {fa : Env → Res RV} (ho : PE X o (tVar i)) (ha : DE X W a fa) (hs : starEach [a] X.env = (false, eval a X.env) :: starEach [] X.env := by rfl) (hbase : attributeBase o "append" X.env (eval o X.env) = eval o X.env := by rfl)
    (hfew : ((backTo cpos (starEach [a] X.env)).all (fun x => !x.1) && (backToKw cpos (keywordEach [] X.env)).all (fun x => x.1.isSome) && decide ([a].length + ([] : List Keyword).length + (if ([] : List Keyword).isEmpty then 0 else 1) < 30)) = true := by rfl)
    (hline : (apos.endLine == cpos.line) = true := by rfl) (hplain : (backTo cpos (starEach [] X.env)).any (·.1) = false := by rfl) : DE X W (.Call (.Attribute o "append" apos) [a] [] cpos) (eMut gAppend i [fa]) :=
  PE.weak (pe_bm PySem.F.plainAttrs_list PySem.F.slot_list_append PySem.F.type_list_append mt_append ho (dd_cons ha dd_nil hs) hbase hfew hline hs hplain) fun σ H Q h => rdMut m_append σ H Q h

/-! d[k] = v of an own dict -/
def sPut (i : Nat) (fk fv : Env → Res RV) : Env → Res Fl := fun e => (fv e).bind fun x e1 => match toD e1 x with
  | none => .no
  | some (d, e2) => match e2[i]? with
    | some (.o _ _ (.d _)) => (fk e2).bind fun y e3 => match (peek e3 y).bind keyD with
      | none => .no
      | some k => match e3[i]? with
        | some (.o p false (.d kvs)) => if kvs.length < sizeLine then .ok .nx (e3.set i (.o p false (.d (putD kvs k d)))) else .no
        | _ => .no
    | _ => .no
theorem ds_put {o i value : Expr} {n : Nat} {pos pos' : Pos} {fk fv : Env → Res RV} (hu : X.A.units + 1 < cLine) (ho : PE X o (tVar n)) (hi : DE X W i fk) (hv : DE X W value fv) (hs : swapsWith value (some (.Subscript o i pos')) pos.line X.env = pure false := by rfl) : DS X W (.Assign [.Subscript o i pos'] value pos) (sPut n fk fv) :=
  PS.weak (ps_dput hu ho hi hv hs) fun D σ H ⟨G, B, e, hK, R, q⟩ => by
    refine ⟨G, B, e, hK, R, postS.of R q fun x e1 v H1 B1 R1 S1 P1 q => ?_⟩
    split at q
    · exact q.elim
    rename_i d e2 ht
    obtain ⟨B2, R2, s2, rp⟩ := Rel.frz R1 (RepR.back R P1) ht
    have q := postS.up s2 q
    split at q
    case h_2 => exact q.elim
    rename_i io lk kvs0 he
    obtain ⟨a, o, f1, f2, f3, f4, f5, f6⟩ := R2.sl n _ he
    refine ⟨.ref a, f1, G, B2, e2, hK, R2, postS.of R2 q fun y e3 w H3 B3 R3 S3 P3 q => ?_⟩
    split at q
    · exact q.elim
    rename_i k hk
    split at q
    case h_2 => exact q.elim
    rename_i p kvs he3
    split at q
    case isFalse => exact q.elim
    rename_i hz
    obtain ⟨c, h1, h2⟩ := bind1 hk
    have t1 := RepR.top R3 (RepR.back R2 P3) h1
    obtain ⟨a', o', g1, g2, ⟨vs, rfl, r1⟩, g4, g5, g6⟩ := R3.sl n _ he3
    rw [f1] at g1
    cases g1
    refine ⟨a, _, rfl, by rw [t1.key h2]; exact DPut.k g2 (by rw [r1.len]; exact hz), ?_⟩
    exact q _ _ B3 (turn_list R3 he3 f1 g4 ⟨_, rfl, r1.put (Rep.mono S3.b0 rp)⟩) (Same.refl B3)
end
end DL

namespace DL
open PySem L2 PySem.Spec PyProof.Rows

/-! ### enumerate of a list or a tuple, from any number on -/
def SqB (b : Bool) (K : PySem.W.Frag) (H : Hp) (a : Addr) (xs : List V) : Prop := if b = true then SqT K H a xs else SqL K H a xs
def AtB (b : Bool) (h : Heap) (a : Addr) (its : Array Value) : Prop := if b = true then h.IsTuple a its else h.IsList a its
def ItB (b : Bool) (h : Heap) (it a : Addr) (i : Nat) : Prop := if b = true then h.IsTupleIter it a i else h.IsListIter it a i
def IteC (K : PySem.W.Frag) (b : Bool) (a : Addr) (k : Int) : It where
  go := fun i H => ∃ (xs : List V) (x : V), SqB b K H a xs ∧ xs[i]? = some x
  yld := fun i H v H' => ∃ (T : Addr) (x : V), v = .ref T ∧ H T = none ∧ H' = upd H T (.tup [.int (k + (i : Nat)), x]) ∧ ∀ xs : List V, SqB b K H a xs → xs[i]? = some x
  stop := fun i H => ∃ xs : List V, SqB b K H a xs ∧ xs.length = i
section
variable {X : Cx} {pins : List (Addr × Obj)} {σ : L2.St} {H : Hp} {s : Shared}
theorem seqB (b : Bool) (I : Inv X pins σ H s) {a : Addr} {xs : List V} (h : SqB b X.K H a xs) : ∃ its : List Value, Vals xs its ∧ AtB b s.heap a its.toArray := by
  cases b with
  | false =>
    obtain ⟨its, r, p, _⟩ := I.list h
    exact ⟨its, r, p.isList⟩
  | true =>
    obtain ⟨its, r, p, _⟩ := I.tuple h
    exact ⟨its, r, p⟩
theorem injB (b : Bool) (I : Inv X pins σ H s) {a : Addr} {xs ys : List V} (h : SqB b X.K H a xs) (g : SqB b X.K H a ys) : xs = ys := by
  cases b with
  | false => exact I.list_inj h g
  | true => exact I.tuple_inj h g
theorem drawsB {prog : Program} {w : World} {A : Around} (b : Bool) (hh : A.handled = none) (it a : Addr) (hne : a ≠ it) (its : Array Value) :
    Draws prog w A it [it, a] its.size (fun i v => its[i]? = some v) (fun i h => ItB b h it a i ∧ AtB b h a its) := by
  cases b with
  | false => exact Draws.list hh it a hne its
  | true => exact Draws.tuple hh it a hne its
theorem itB_at {b : Bool} {h h' : Heap} {it a : Addr} {i : Nat} (x : ItB b h it a i) (k : ∀ o, h.get? it = some o → h'.get? it = some o) : ItB b h' it a i := by
  cases b with
  | false => exact (show h.IsListIter it a i from x).at k
  | true => exact (show h.IsTupleIter it a i from x).at k
theorem itB_obj {b : Bool} {h : Heap} {it a : Addr} {i : Nat} (x : ItB b h it a i) : ∃ o vs, h.get? it = some o ∧ o.data = .fields vs ∧ (o.cls = .type "list_iterator" ∨ o.cls = .type "tuple_iterator") := by
  cases b with
  | false => obtain ⟨o, h1, h2, h3⟩ := (show h.IsListIter it a i from x); exact ⟨o, _, h1, h3, .inl h2⟩
  | true => obtain ⟨o, h1, h2, h3⟩ := (show h.IsTupleIter it a i from x); exact ⟨o, _, h1, h3, .inr h2⟩
theorem atB_obj {b : Bool} {h : Heap} {a : Addr} {its : Array Value} (x : AtB b h a its) : ∃ o n, h.get? a = some o ∧ o.data = .seq its n := by
  cases b with
  | false => obtain ⟨o, h1, h2, n, h3⟩ := (show h.IsList a its from x); exact ⟨o, n, h1, h3⟩
  | true => obtain ⟨o, h1, h2, n, h3⟩ := (show h.IsTuple a its from x); exact ⟨o, n, h1, h3⟩
end
theorem turn_enumC {P : Program} {w : World} {K : PySem.W.Frag} {elts : List Expr} {kk : Nat} {tpos : Pos} (b : Bool) (k : Int) (a e it : Addr) :
    Turn P w K (.Tuple elts kk tpos) (IteC K b a k) [e, it] e (fun i h => (∃ old, IsEnum h e it (k + (i : Nat)) old) ∧ ItB b h it a i ∧ e ≠ it) := by
  have two : ∀ {z : Addr}, z ∈ [e, it] → z = e ∨ z = it := fun h => by simpa using h
  constructor
  case mem => simp
  case obj =>
    rintro i h ⟨⟨old, he⟩, hi, _⟩ z hz
    obtain ⟨o, vs, h1, h2, _⟩ := itB_obj hi
    rcases two hz with rfl | rfl
    · exact ⟨_, he, fun v q => nomatch q⟩
    · exact ⟨o, h1, fun v q => by rw [h2] at q; cases q⟩
  case keep =>
    rintro i h h' ⟨⟨old, he⟩, hi, ne⟩ kp
    exact ⟨⟨old, kp e (by simp) _ he⟩, itB_at hi fun o q => kp it (by simp) o q, ne⟩
  case self =>
    rintro A i st Q E ⟨⟨_, he⟩, _⟩ h
    exact wpAny_pyIter_enum he h
  case done =>
    rintro X rfl rfl rfl hc i pins st σ H E I hf ⟨⟨old, he⟩, hi, ne⟩ ⟨xs, hq, hx⟩
    obtain ⟨its, rv, at0⟩ := seqB b I hq
    obtain ⟨oi, vi, hoi, hdi, _⟩ := itB_obj hi
    obtain ⟨oa, na, hoa, hda⟩ := atB_obj at0
    have nai : a ≠ it := fun z => by
      subst z
      rw [hoa] at hoi
      cases hoi
      rw [hda] at hdi
      cases hdi
    obtain ⟨f0, f1, f2, f3, f4, f5⟩ := hf it (by simp)
    have hl := rv.length
    have z : i = its.length := by omega
    exact wpAny_pyNext_enum_endD (drawsB b (show X.A.in1.handled = none from I.ok.hd hc) it a nai its.toArray) he ⟨by rw [List.size_toArray, ← z]; exact hi, at0⟩ fun h' eb => ⟨rfl, I.turned (t' := st.toks) (fun b o hb q => eb b o hb q) f0 f1 f3 f4 f5⟩
  case item =>
    rintro X rfl rfl rfl hc i pins st σ H E I hf ⟨⟨old, he⟩, hi, ne⟩ ⟨xs, x, hq, hx⟩
    obtain ⟨its, rv, at0⟩ := seqB b I hq
    obtain ⟨u, hu, ru⟩ := rv.get hx
    obtain ⟨oi, vi, hoi, hdi, _⟩ := itB_obj hi
    obtain ⟨oa, na, hoa, hda⟩ := atB_obj at0
    have nai : a ≠ it := fun z => by
      subst z
      rw [hoa] at hoi
      cases hoi
      rw [hda] at hdi
      cases hdi
    have nea : e ≠ a := fun z => by
      subst z
      rw [show st.heap.get? e = some _ from he] at hoa
      cases hoa
      cases hda
    have lt : i < its.toArray.size := by
      rw [List.size_toArray]
      exact (List.getElem?_eq_some_iff.mp hu).1
    have le : e < st.heap.objs.size := Heap.lt_size he
    have li : it < st.heap.objs.size := Heap.lt_size hoi
    refine wpAny_pyNext_enum_itemC (drawsB b (show X.A.in1.handled = none from I.ok.hd hc) it a nai its.toArray) he ⟨hi, at0⟩ lt ne (by simp [ne, nea]) fun u2 h' tk hu2 eo si ht hz kp => ?_
    have hu2 : its[i]? = some u2 := by simpa using hu2
    rw [hu] at hu2
    cases hu2
    refine ⟨_, rfl, wpAny_letOwnedTupleGo_enum (s := { st with heap := h', toks := tk + 1 }) eo fun h2 he2 sb => ?_⟩
    have ht2 : h2.get? st.heap.objs.size = some { cls := .type "tuple", data := .seq #[.int (k + (i : Nat)) tk, u] } := (sb.2 _ (Nat.ne_of_gt le)).trans ht
    have new : ObjOk X.prog X.w (upd H st.heap.objs.size (.tup [.int (k + (i : Nat)), x])) h2 st.heap.objs.size (.tup [.int (k + (i : Nat)), x]) :=
      ⟨by show 2 ≤ sizeLine; decide, [.int (k + (i : Nat)) tk, u], .cons ⟨_, rfl⟩ (.cons ru .nil), _, ht2, rfl, _, rfl⟩
    have I2 := I.turnedNew (t' := tk + 1) (ch := [e, it]) (fun z ob hz q => (sb.2 z fun y => hz (by simp [y])).trans (kp z ob (fun y => hz (by simp [y])) (fun y => hz (by simp [y])) q)) hf (Nat.le_refl _) new
    refine ⟨.ref st.heap.objs.size, _, I2, rfl, ⟨_, x, rfl, I.hok.fresh (Nat.le_refl _), rfl, fun ys hy => by rw [injB b I hy hq]; exact hx⟩, ⟨⟨u, ?_⟩, itB_at si.1 fun o q => (sb.2 it (Ne.symm ne)).trans q, ne⟩, fun z hz => ?_⟩
    · have e1 : k + ((i + 1 : Nat) : Int) = k + (i : Nat) + 1 := by omega
      rw [e1]
      exact he2
    · have lz : z < st.heap.objs.size := by
        rcases two hz with rfl | rfl
        · exact le
        · exact li
      rw [upd_ne (Nat.ne_of_lt lz)]
      exact (hf z hz).1

/-- what enumerate begins with -/
theorem begins_enumB {X : Cx} {pins : List (Addr × Obj)} {σ : L2.St} {H1 : Hp} {st : Shared} {b : Bool} {k : Int} {a : Addr} {xs : List V} {elts : List Expr} {kk : Nat} {tpos : Pos} {R : It → Hp → Prop} (I : Inv X pins σ H1 st) (hq : SqB b X.K H1 a xs) (q : R (IteC X.K b a k) H1) {h' : Heap}
    (he : IsEnum h' (st.heap.objs.size + 1) st.heap.objs.size k .none) (hit : ItB b h' st.heap.objs.size a 0) (hk : ∀ b o, st.heap.get? b = some o → h'.get? b = some o) :
    PIE X pins σ (.Tuple elts kk tpos) R (.ref (st.heap.objs.size + 1)) { st with heap := h' } := by
  refine ⟨st.heap.objs.size + 1, [st.heap.objs.size + 1, st.heap.objs.size], _, _, H1, rfl, I.kept (t' := st.toks) hk, turn_enumC b k a (st.heap.objs.size + 1) st.heap.objs.size, ⟨⟨.none, ?_⟩, hit, Nat.succ_ne_self _⟩, fun z hz => ?_, q⟩
  · have e0 : k + ((0 : Nat) : Int) = k := by omega
    rw [e0]
    exact he
  · have lz : st.heap.objs.size ≤ z := by
      rcases (by simpa using hz : z = st.heap.objs.size + 1 ∨ z = st.heap.objs.size) with rfl | rfl
      · omega
      · exact Nat.le_refl _
    exact I.fpOk lz (I.hok.fresh lz)
theorem enum_run {X : Cx} {pins : List (Addr × Obj)} {σ : L2.St} {H1 : Hp} {st : Shared} {b : Bool} {k : Int} {t : Tok} {a : Addr} {xs : List V} {elts : List Expr} {kk : Nat} {tpos : Pos} {R : It → Hp → Prop} (I : Inv X pins σ H1 st) (hq : SqB b X.K H1 a xs) (q : R (IteC X.K b a k) H1) (h0 : -(2 ^ 63) ≤ k) (h1 : k < 2 ^ 63) :
    wpAny (model X.prog X.w) X.A (call (.type "enumerate") [.ref a] [(Str.ofString "start", .int k t)]) (fun v s1 => wpAny (model X.prog X.w) X.A (pyIter v) (PIE X pins σ (.Tuple elts kk tpos) R) X.xe s1) X.xe st := by
  obtain ⟨its, rv, at0⟩ := seqB b I hq
  cases b with
  | false => exact enum_begins_start (begins_list a its.toArray) at0 h0 h1 fun h' he ho _ hk => wpAny_pyIter_enum he (begins_enumB I hq q he ⟨_, ho, rfl, rfl⟩ hk)
  | true => exact enum_begins_start (begins_tuple a its.toArray) at0 h0 h1 fun h' he ho _ hk => wpAny_pyIter_enum he (begins_enumB I hq q he ⟨_, ho, rfl, rfl⟩ hk)
end DL

namespace DL
open PySem L2 PySem.Spec PyProof.Rows
/-! ### enumerate with one argument, of anything that begins an iterator -/
theorem enum_new1 {v : Value} {o : Obj} {H : Heap → Prop} (B : Begins v o H) : Meets (Builtin.«enumerate.__new__» ⟨[.type "enumerate", v], []⟩) (fun _ R s => H s.heap ∧
    R (.ok (.ret (.ref (s.heap.push o).objs.size))) { s with heap := (s.heap.push o).push { cls := .type "enumerate", data := .fields #[.none, .bool false, .ref s.heap.objs.size, rawInt 0, .none, .none] } }) := .of_wp fun prog w A R s hh => by
  obtain ⟨hp, g, dd, tk, os⟩ := s
  obtain ⟨hH, hR⟩ := hh
  have q1 : ∀ {A' : Around} {E : Value → Shared → Prop} {Q : Value → Shared → Prop}, Q (.ref hp.objs.size) ⟨hp.push o, g, dd, tk, os⟩ → wpAny (model prog w) A' (pyIter v) Q E ⟨hp, g, dd, tk, os⟩ := fun q => B.iter prog w _ _ ⟨hp, g, dd, tk, os⟩ _ hH q
  have hs := sub_enumerate
  wp_walk using q1
  refine wpAny_stack_any fun st => wpAny_pure ?_
  split
  · rename_i c _ _ _ _ _
    cases (c == Value.type "enumerate")
    all_goals (wp_walk using q1; exact ⟨_, rfl, hR⟩)
  · wp_walk using q1
    exact ⟨_, rfl, hR⟩
theorem enum_call1 {prog : Program} {w : World} {A : Around} {E : Value → Shared → Prop} {s : Shared} {v : Value} {o : Obj} {H : Heap → Prop} {Q : Value → Shared → Prop} (B : Begins v o H) (h1 : H s.heap)
    (h : ∀ h', IsEnum h' (s.heap.objs.size + 1) s.heap.objs.size 0 .none → h'.get? s.heap.objs.size = some o → (∀ b o, s.heap.get? b = some o → h'.get? b = some o) → Q (.ref (s.heap.objs.size + 1)) { s with heap := h' }) :
    wpAny (model prog w) A (call (.type "enumerate") [v]) Q E s := by
  refine callType_new F.called_enumerate (by decide) (F.typeCall_enumerate_1 _) (F.newCall_enumerate_1 _) (fun obj => F.args_object_init_2 obj _) F.entry_enumerate_new (enum_new1 B) ⟨h1, ?_⟩
  have z : (s.heap.push o).objs.size = s.heap.objs.size + 1 := Heap.size_push ..
  have ok : IsEnum ((s.heap.push o).push { cls := .type "enumerate", data := .fields #[.none, .bool false, .ref s.heap.objs.size, rawInt 0, .none, .none] }) (s.heap.objs.size + 1) s.heap.objs.size 0 .none := by
    rw [← z]
    exact Heap.get?_push_size (s.heap.push o) rfl
  rw [z]
  exact ⟨⟨_, ok, rfl⟩, h _ ok (Heap.get?_push_of_some _ (Heap.get?_push_size _ B.free)) fun b u x => Heap.get?_push_of_some _ (Heap.get?_push_of_some _ x)⟩
theorem enum_run0 {X : Cx} {pins : List (Addr × Obj)} {σ : L2.St} {H1 : Hp} {st : Shared} {b : Bool} {a : Addr} {xs : List V} {elts : List Expr} {kk : Nat} {tpos : Pos} {R : It → Hp → Prop} (I : Inv X pins σ H1 st) (hq : SqB b X.K H1 a xs) (q : R (IteC X.K b a 0) H1) :
    wpAny (model X.prog X.w) X.A (call (.type "enumerate") [.ref a]) (fun v s1 => wpAny (model X.prog X.w) X.A (pyIter v) (PIE X pins σ (.Tuple elts kk tpos) R) X.xe s1) X.xe st := by
  obtain ⟨its, rv, at0⟩ := seqB b I hq
  cases b with
  | false => exact enum_call1 (begins_list a its.toArray) at0 fun h' he ho hk => wpAny_pyIter_enum he (begins_enumB I hq q he ⟨_, ho, rfl, rfl⟩ hk)
  | true => exact enum_call1 (begins_tuple a its.toArray) at0 fun h' he ho hk => wpAny_pyIter_enum he (begins_enumB I hq q he ⟨_, ho, rfl, rfl⟩ hk)
def iEnC (K : PySem.W.Frag) (k : Int) (ta : TA) : TI := fun σ H R => ta σ H fun vs H1 => ∃ b a xs, vs = [.ref a] ∧ SqB b K H1 a xs ∧ R (IteC K b a k) H1
theorem pi_enum0 {X : Cx} {e : Expr} {ta : TA} {p pos tpos : Pos} {elts : List Expr} {kk : Nat} (hg : Gl X "enumerate") (hm : X.mg "enumerate" = none) (ha : PA X [e] ta) (hs : starEach [e] X.env = [(false, eval e X.env)] := by rfl) :
    PI X (.Tuple elts kk tpos) (.Call (.Name "enumerate" p) [e] [] pos) (iEnC X.K 0 ta) := ⟨fun pins s σ H R I h => by
  refine Call_ (ld_blt I hg hm boot_enumerate (PyProof.Rows.callWith_type1 (thn (ha.run pos pins s σ H _ I h) fun us s1 ⟨vs, H1, I1, r1, q1⟩ => ?_) hs rfl))
  obtain ⟨b, a, xs, ex, hq, q⟩ := q1
  subst ex
  cases r1 with
  | cons r rr =>
    cases rr
    cases r
    exact enum_run0 I1 hq q⟩
theorem callWith_typeK {M : Model} {A : Around} {E : Value → Shared → Prop} {s : Shared} {env : PySem.Env} {pos : Pos} {T : String} {e : Expr} {rest : List Expr} {kws : List Keyword} {Q : Value → Shared → Prop}
    (h : wpAny M A (spliced (backTo pos (starEach (e :: rest) env))) (fun vs s₁ => wpAny M A (evalAll ((backToKw pos (keywordEach kws env)).map (·.2))) (fun ks s₂ => wpAny M A (call (.type T) vs (((backToKw pos (keywordEach kws env)).filterMap (·.1)).zip ks)) Q E s₂) E s₁) E s)
    (he : backTo pos (starEach (e :: rest) env) = (false, eval e env) :: backTo pos (starEach rest env)) (hp : (backTo pos (starEach (e :: rest) env)).any (·.1) = false) (ha : (backToKw pos (keywordEach kws env)).all (·.1.isSome) = true) (hk : (backToKw pos (keywordEach kws env)).any (·.1.isNone) = false) :
    wpAny M A (callWith pos (.type T) [] (backTo pos (starEach (e :: rest) env)) (backToKw pos (keywordEach kws env))) Q E s := by
  unfold callWith
  refine wpAny_bind (wpAny_holding ?_)
  have h2 : wpAny M A (evalArgs (.type T) true (backTo pos (starEach (e :: rest) env)) (backToKw pos (keywordEach kws env))) (fun a s₁ => wpAny M A (call (.type T) a.pos a.kw) Q E s₁) E s := by
    rw [he] at h ⊢
    exact evalArgs_kwB ha h
  refine wpAny_mono h2 (fun a s1 h1 => wpAny_bind (wpAny_standAt ?_)) fun _ _ x => x
  simp only [hp, hk, Bool.or_false]
  exact wpAny_bind (wpAny_pure (wpAny_bind (wpAny_mono h1 (fun r s2 hr => wpAny_bind (wpAny_holding (wpAny_point (wpAny_pure hr)))) fun _ _ x => x)))
theorem pi_enumK {X : Cx} {e : Expr} {ta : TA} {p pos tpos pk kp : Pos} {elts : List Expr} {kk : Nat} {k : Int} {j} (h0 : -(2 ^ 63) ≤ k) (h1 : k < 2 ^ 63) (hg : Gl X "enumerate") (hm : X.mg "enumerate" = none) (ha : PA X [e] ta) (hs : backTo pos (starEach [e] X.env) = (false, eval e X.env) :: backTo pos (starEach [] X.env) := by rfl) (hp : (backTo pos (starEach [e] X.env)).any (·.1) = false := by rfl) :
    PI X (.Tuple elts kk tpos) (.Call (.Name "enumerate" p) [e] [⟨some (Str.ofString "start"), .Constant (.int k) j pk, kp⟩] pos) (iEnC X.K k ta) := ⟨fun pins s σ H R I h => by
  refine wpAny_Call_Name_kw (ld_blt I hg hm boot_enumerate ?_)
  refine callWith_typeK (thn (ha.run pos pins s σ H _ I h) fun us s1 ⟨vs, H1, I1, r1, q1⟩ => ?_) hs hp rfl rfl
  have pk1 : PK X [⟨some (Str.ofString "start"), .Constant (.int k) j pk, kp⟩] (tCons (tC (.int k)) tNil) := pk_cons pe_int pk_nil
  refine thn (pk1.run pos pins s1 σ H1 (fun zs H2 => zs = [.int k] ∧ H2 = H1) I1 ⟨rfl, rfl⟩) fun ws s2 ⟨zs, H2, I2, r2, q2⟩ => ?_
  obtain ⟨rfl, rfl⟩ := q2
  obtain ⟨b, a, xs, ex, hq, q⟩ := q1
  subst ex
  cases r1 with
  | cons r rr =>
    cases rr
    cases r
    cases r2 with
    | cons r' rr =>
      cases rr
      obtain ⟨t, rfl⟩ := r'
      exact enum_run I2 hq q h0 h1⟩
def enumD : Int → List D → List D
  | _, [] => []
  | k, d :: ds => .tup [.int k, d] :: enumD (k + 1) ds
theorem enumD_len : ∀ (k : Int) (ds : List D), (enumD k ds).length = ds.length
  | _, [] => rfl
  | k, d :: ds => by simp [enumD, enumD_len (k + 1) ds]
theorem enumD_get : ∀ (k : Int) (ds : List D) (i : Nat) (d : D), ds[i]? = some d → (enumD k ds)[i]? = some (.tup [.int (k + (i : Nat)), d])
  | k, d :: ds, 0, d', h => by
    simp at h
    subst h
    simp [enumD]
  | k, d :: ds, i + 1, d', h => by
    have := enumD_get (k + 1) ds i d' (by simpa using h)
    have e : k + 1 + (i : Int) = k + ((i + 1 : Nat) : Int) := by omega
    rw [e] at this
    simpa [enumD] using this
  | _, [], _, _, h => by simp at h
theorem goes_enum {K : PySem.W.Frag} {B0 : Hp} {b : Bool} {a : Addr} {vs : List V} {ds : List D} (k : Int) (h : SqB b K B0 a vs) (r : RepA K B0 vs ds) : Goes K (IteC K b a k) B0 (enumD k ds) := fun i B H s1 s2 => by
  have hq : SqB b K H a vs := by
    cases b with
    | false => exact sqL_mono (s1.trans s2) h
    | true => exact sqT_mono (s1.trans s2) h
  rw [enumD_len]
  refine ⟨fun l => ?_, fun l => ⟨vs, hq, by rw [r.len, l]⟩⟩
  obtain ⟨u, hu, ru⟩ := r.get (List.getElem?_eq_getElem l)
  refine ⟨⟨vs, u, hq, hu⟩, fun x H' hy => ?_⟩
  obtain ⟨T, y, rfl, hT, rfl, hx⟩ := hy
  have hx := hx vs hq
  rw [hu] at hx
  cases hx
  refine ⟨upd B T (.tup [.int (k + (i : Nat)), u]), _, enumD_get k ds i _ (List.getElem?_eq_getElem l), Grow.new s2 hT, ?_⟩
  have g := (Grow.new (o := .tup [.int (k + (i : Nat)), u]) s2 hT).eb
  exact .tup (.inl (.inl (upd_same ..))) (.cons (.int _) (.cons ((ru.mono s1).mono g) .nil))
def iEnum (k : Int) (fs : List (Env → Res RV)) : Env → Res (List D) := fun e => (eDs fs e).bind fun ds e1 => match ds with
  | [.lst xs] => .ok (enumD k xs) e1
  | [.tup xs] => .ok (enumD k xs) e1
  | _ => .no
section
variable {X : Cx} {W : WX}
theorem rd_enum {K : PySem.W.Frag} {k : Int} {fs : List (Env → Res RV)} (σ : L2.St) (H : Hp) (R0 : It → Hp → Prop) (h : rdI W K (iEnum k fs) σ H R0) : iEnC K k (rdD W K (eDs fs)) σ H R0 := by
  obtain ⟨G, B, e, hK, R, q⟩ := h
  refine ⟨G, B, e, hK, R, post.bind q fun ds e1 vs H1 B1 R1 P1 q => ?_⟩
  have P1 : RepA G.K B1 vs ds := P1
  split at q
  · cases P1 with
    | cons r rr =>
      cases rr
      cases r with
      | lst hs r => exact ⟨false, _, _, rfl, SqL.of (R1.bh _ _ hs), hK ▸ q _ H1 B1 R1 (show Goes G.K _ _ _ from goes_enum (b := false) k (SqL.of hs) r)⟩
  · cases P1 with
    | cons r rr =>
      cases rr
      cases r with
      | tup hs r => exact ⟨true, _, _, rfl, hK ▸ sqT_mono R1.bh hs, hK ▸ q _ H1 B1 R1 (show Goes G.K _ _ _ from goes_enum (b := true) k hs r)⟩
  · exact q.elim
theorem di_enum0 {a : Expr} {f : Env → Res RV} {p pos tpos : Pos} {elts : List Expr} {kk : Nat} (hg : Gl X "enumerate") (hm : X.mg "enumerate" = none) (ha : DD X W [a] (eDs [f])) (hs : starEach [a] X.env = [(false, eval a X.env)] := by rfl) : DI X W (.Tuple elts kk tpos) (.Call (.Name "enumerate" p) [a] [] pos) (iEnum 0 [f]) := PI.weak (pi_enum0 hg hm ha hs) fun σ H Q h => rd_enum σ H Q h
theorem di_enumK {a : Expr} {f : Env → Res RV} {p pos tpos pk kp : Pos} {elts : List Expr} {kk : Nat} {k : Int} {j} (h0 : -(2 ^ 63) ≤ k) (h1 : k < 2 ^ 63) (hg : Gl X "enumerate") (hm : X.mg "enumerate" = none) (ha : DD X W [a] (eDs [f])) (hs : backTo pos (starEach [a] X.env) = (false, eval a X.env) :: backTo pos (starEach [] X.env) := by rfl) (hp : (backTo pos (starEach [a] X.env)).any (·.1) = false := by rfl) :
    DI X W (.Tuple elts kk tpos) (.Call (.Name "enumerate" p) [a] [⟨some (Str.ofString "start"), .Constant (.int k) j pk, kp⟩] pos) (iEnum k [f]) := PI.weak (pi_enumK h0 h1 hg hm ha hs hp) fun σ H Q h => rd_enum σ H Q h
/-! ### zip of two lists or two tuples -/
def zipD : List D → List D → List D
  | x :: xs, y :: ys => .tup [x, y] :: zipD xs ys
  | _, _ => []
theorem zipD_len : ∀ (xs ys : List D), (zipD xs ys).length = min xs.length ys.length
  | [], _ => by simp [zipD]
  | _ :: _, [] => by simp [zipD]
  | x :: xs, y :: ys => by simp [zipD, zipD_len xs ys]
theorem zipD_get : ∀ (xs ys : List D) (i : Nat) (x y : D), xs[i]? = some x → ys[i]? = some y → (zipD xs ys)[i]? = some (.tup [x, y])
  | x :: xs, y :: ys, 0, a, b, h1, h2 => by simp at h1 h2; subst h1 h2; rfl
  | x :: xs, y :: ys, i + 1, a, b, h1, h2 => by simpa [zipD] using zipD_get xs ys i a b (by simpa using h1) (by simpa using h2)
  | [], _, _, _, _, h, _ => by simp at h
  | _ :: _, [], _, _, _, _, h => by simp at h
theorem goes_zipL {K : PySem.W.Frag} {B0 : Hp} {a b : Addr} {vs ws : List V} {ds cs : List D} (h : SqL K B0 a vs) (r : RepA K B0 vs ds) (h' : SqL K B0 b ws) (r' : RepA K B0 ws cs) : Goes K (Itz K a b) B0 (zipD ds cs) := fun i B H s1 s2 => by
  have hq := sqL_mono (s1.trans s2) h
  have hq' := sqL_mono (s1.trans s2) h'
  rw [zipD_len]
  refine ⟨fun l => ?_, fun l => ⟨vs, ws, hq, hq', by rw [r.len, r'.len]; omega⟩⟩
  have l1 : i < ds.length := by omega
  have l2 : i < cs.length := by omega
  obtain ⟨u, hu, ru⟩ := r.get (List.getElem?_eq_getElem l1)
  obtain ⟨u', hu', ru'⟩ := r'.get (List.getElem?_eq_getElem l2)
  refine ⟨⟨vs, ws, u, u', hq, hq', hu, hu'⟩, fun x H' hy => ?_⟩
  obtain ⟨T, x1, y1, rfl, hT, rfl, hx, hy⟩ := hy
  have hx := hx vs hq
  have hy := hy ws hq'
  rw [hu] at hx
  rw [hu'] at hy
  cases hx
  cases hy
  have g := (Grow.new (o := .tup [u, u']) s2 hT).eb
  exact ⟨upd B T (.tup [u, u']), _, zipD_get _ _ i _ _ (List.getElem?_eq_getElem l1) (List.getElem?_eq_getElem l2), Grow.new s2 hT, .tup (.inl (.inl (upd_same ..))) (.cons ((ru.mono s1).mono g) (.cons ((ru'.mono s1).mono g) .nil))⟩
theorem goes_zipT {K : PySem.W.Frag} {B0 : Hp} {a b : Addr} {vs ws : List V} {ds cs : List D} (h : SqT K B0 a vs) (r : RepA K B0 vs ds) (h' : SqT K B0 b ws) (r' : RepA K B0 ws cs) : Goes K (RZ.ItzT K a b) B0 (zipD ds cs) := fun i B H s1 s2 => by
  have hq := sqT_mono (s1.trans s2) h
  have hq' := sqT_mono (s1.trans s2) h'
  rw [zipD_len]
  refine ⟨fun l => ?_, fun l => ⟨vs, ws, hq, hq', by rw [r.len, r'.len]; omega⟩⟩
  have l1 : i < ds.length := by omega
  have l2 : i < cs.length := by omega
  obtain ⟨u, hu, ru⟩ := r.get (List.getElem?_eq_getElem l1)
  obtain ⟨u', hu', ru'⟩ := r'.get (List.getElem?_eq_getElem l2)
  refine ⟨⟨vs, ws, u, u', hq, hq', hu, hu'⟩, fun x H' hy => ?_⟩
  obtain ⟨T, x1, y1, rfl, hT, rfl, hx, hy⟩ := hy
  have hx := hx vs hq
  have hy := hy ws hq'
  rw [hu] at hx
  rw [hu'] at hy
  cases hx
  cases hy
  have g := (Grow.new (o := .tup [u, u']) s2 hT).eb
  exact ⟨upd B T (.tup [u, u']), _, zipD_get _ _ i _ _ (List.getElem?_eq_getElem l1) (List.getElem?_eq_getElem l2), Grow.new s2 hT, .tup (.inl (.inl (upd_same ..))) (.cons ((ru.mono s1).mono g) (.cons ((ru'.mono s1).mono g) .nil))⟩
def iZip (fs : List (Env → Res RV)) : Env → Res (List D) := fun e => (eDs fs e).bind fun ds e1 => match ds with
  | [.lst xs, .lst ys] => .ok (zipD xs ys) e1
  | [.tup xs, .tup ys] => .ok (zipD xs ys) e1
  | _ => .no
theorem di_zip {a b : Expr} {f g : Env → Res RV} {p pos tpos : Pos} {elts : List Expr} {kk : Nat} (hg : Gl X "zip") (hm : X.mg "zip" = none) (ha : DD X W [a, b] (eDs [f, g])) (hs : starEach [a, b] X.env = (false, eval a X.env) :: starEach [b] X.env := by rfl) (hpl : (backTo pos (starEach [b] X.env)).any (·.1) = false := by rfl) :
    DI X W (.Tuple elts kk tpos) (.Call (.Name "zip" p) [a, b] [] pos) (iZip [f, g]) := PI.weak (RZ.pi_zipA hg hm ha hs hpl) fun σ H R0 ⟨G, B, e, hK, R, q⟩ => by
  refine ⟨G, B, e, hK, R, post.bind q fun ds e1 vs H1 B1 R1 P1 q => ?_⟩
  have P1 : RepA G.K B1 vs ds := P1
  split at q
  · cases P1 with
    | cons r rr =>
      cases rr with
      | cons r' rr =>
        cases rr
        cases r with
        | lst hs r =>
          cases r' with
          | lst hs' r' => exact ⟨_, _, _, _, rfl, .inl ⟨SqL.of (R1.bh _ _ hs), SqL.of (R1.bh _ _ hs'), hK ▸ q _ H1 B1 R1 (show Goes G.K _ _ _ from goes_zipL (SqL.of hs) r (SqL.of hs') r')⟩⟩
  · cases P1 with
    | cons r rr =>
      cases rr with
      | cons r' rr =>
        cases rr
        cases r with
        | tup hs r =>
          cases r' with
          | tup hs' r' => exact ⟨_, _, _, _, rfl, .inr ⟨hK ▸ sqT_mono R1.bh hs, hK ▸ sqT_mono R1.bh hs', hK ▸ q _ H1 B1 R1 (show Goes G.K _ _ _ from goes_zipT hs r hs' r')⟩⟩
  · exact q.elim
end
end DL

namespace DL
open PySem L2 PySem.Spec PyProof.Rows
/-! ### a dict display -/
def eKs : List (Key × (Env → Res RV)) → Env → Res (List (Key × D))
  | [] => fun e => .ok [] e
  | (k, f) :: fs => fun e => (f e).bind fun x e1 => match toD e1 x with
    | some (d, e2) => (eKs fs e2).bind fun r e3 => .ok ((k, d) :: r) e3
    | none => .no
def mergeD : List (Key × D) → List (Key × D) → List (Key × D)
  | acc, [] => acc
  | acc, (k, d) :: r => mergeD (putD acc k d) r
def eDct (fs : List (Key × (Env → Res RV))) : Env → Res RV := fun e => (eKs fs e).bind fun r e1 => if r.length ≤ 15 then .ok (.m (.d (mergeD [] r))) e1 else .no
def vKs : Vw (List (Key × D)) (List (V × V)) := ⟨fun G B _ _ _ ds ps => ∃ kvs, ps = kvs.map (fun kv => (kV kv.1, kv.2)) ∧ RepK G.K B kvs ds⟩
theorem RepK.merge {K : PySem.W.Frag} {B : Hp} : ∀ {v w : List (Key × V)} {d e : List (Key × D)}, RepK K B v d → RepK K B w e → RepK K B (mergeK v w) (mergeD d e)
  | _, _, _, _, h, .nil => h
  | v, _, d, _, h, .cons (k := k) (v := x) (vs := w) (d := y) (ds := e) a t => by
    show RepK K B (mergeK (putK v k x) w) (mergeD (putD d k y) e)
    exact RepK.merge (RepK.put h a) t
theorem Rel.less {G : Gm} {B H H' B2 H2 : Hp} {o : Addr → Prop} {σ : L2.St} {e : Env} (eh : ∀ a u, H a = some u → H' a = some u) (R : Rel (G.at B H' o) B2 H2 σ e) : Rel (G.at B H o) B2 H2 σ e where
  len := R.len
  b0 := R.b0
  bh := R.bh
  fd := R.fd
  dm := fun a h => by
    cases q : H a with
    | none => exact q
    | some u =>
      have := R.dm a h
      rw [show (G.at B H' o).H0 a = H' a from rfl, eh a u q] at this
      cases this
  fr := fun a u h n => R.fr a u (eh a u h) n
  bf := fun a u h n z => R.bf a u (eh a u h) n z
  sl := fun i s hs => by
    have h := R.sl i s hs
    cases s with
    | u => trivial
    | v d => exact h
    | o p q m =>
      obtain ⟨a, u, e1, e2, e3, e4, e5, e6⟩ := h
      refine ⟨a, u, e1, e2, e3, e4, ?_, e6⟩
      rcases e5 with e5 | e5
      · cases q : H a with
        | none => exact .inl q
        | some w =>
          rw [show (G.at B H' o).H0 a = H' a from rfl, eh a w q] at e5
          cases e5
      · exact .inr e5
  ne := R.ne
section
variable {X : Cx} {W : WX}
theorem rdPairs {K : PySem.W.Frag} : ∀ (fs : List (Key × (Env → Res RV))) (σ : L2.St) (H : Hp) (Q : List (V × V) → Hp → Prop), @rd _ _ vKs W K (eKs fs) σ H Q → tPairs (fs.map fun p => (tC (kV p.1), rdE W K p.2)) σ H Q
  | [], σ, H, Q, ⟨G, B, e, hK, R, q⟩ => q [] H B R.rebase ⟨[], rfl, .nil⟩
  | (k, f) :: fs, σ, H, Q, ⟨G, B, e, hK, R, q⟩ => by
    refine (show rdE W K f σ H _ from ⟨G, B, e, hK, R, post.bind q fun x e1 v H1 B1 R1 P1 q => ?_⟩)
    cases ht : toD e1 x with
    | none => rw [ht] at q; exact q.elim
    | some p =>
      obtain ⟨d, e2⟩ := p
      rw [ht] at q
      obtain ⟨B2, R2, s2, rp⟩ := Rel.frz R1 P1 ht
      refine rdPairs fs σ H1 _ ⟨G.at B H (Owned σ e), B2, e2, hK, R2, post.bind (q.shift R2 fun B3 H3 e3 x v h => h) fun ds e3 w H3 B3 R3 P3 q => ?_⟩
      obtain ⟨kvs, rfl, r⟩ := P3
      exact q _ H3 B3 R3 ⟨(k, v) :: kvs, rfl, .cons (rp.mono R3.b0) r⟩
theorem rdDisp {K : PySem.W.Frag} {fs : List (Key × (Env → Res RV))} (σ : L2.St) (H : Hp) (Q : VK) (h : rdE W K (eDct fs) σ H Q) : tDisp (fs.map fun p => (tC (kV p.1), rdE W K p.2)) σ H Q := by
  obtain ⟨G, B, e, hK, R, q⟩ := h
  intro p hp
  have eh : ∀ a u, H a = some u → upd H p (.dK []) a = some u := fun a u h => by rw [upd_ne (ne_of_none h hp)]; exact h
  have own : ¬ Owned σ e p := fun z => by
    obtain ⟨o, z1, _⟩ := R.owned z
    rw [hp] at z1
    cases z1
  have R' : Rel G B (upd H p (.dK [])) σ e := R.grow (Grow.own R.bh hp)
  refine rdPairs fs σ _ _ ⟨G, B, e, hK, R', ?_⟩
  have q : post vR W G B H σ e Q ((eKs fs e).bind fun r e1 => if r.length ≤ 15 then .ok (.m (.d (mergeD [] r))) e1 else .no) := q
  cases hf : eKs fs e with
  | no => rw [hf] at q; exact q.elim
  | exc x e1 =>
    rw [hf] at q
    exact fun cls d H2 B2 R2 hx => q cls d H2 B2 (Rel.less eh R2) hx
  | ok r e1 =>
    rw [hf] at q
    intro ps H2 B2 R2 P2
    have q : post vR W G B H σ e Q (if r.length ≤ 15 then .ok (.m (.d (mergeD [] r))) e1 else .no) := q
    split at q
    case isFalse => exact q.elim
    rename_i hl
    obtain ⟨kvs, rfl, rk⟩ := P2
    have h2 : H2 p = some (.dK []) := R2.fr p _ (by exact upd_same) own
    have b2 : B2 p = none := R2.bf p _ (by exact upd_same) own (R.bh.free hp)
    have R3 := Rel.less eh R2
    have no : ¬ Owned σ e1 p := fun z => by
      obtain ⟨_, _, _, z⟩ := R2.owned z
      rcases z with z | z
      · rw [show (G.at B (upd H p (.dK [])) (Owned σ e)).H0 p = some _ from upd_same] at z; cases z
      · exact own z
    refine ⟨h2, kvs, rfl, ?_, ?_⟩
    · have : kvs.length = r.length := rk.len
      omega
    · exact q _ _ B2 (Rel.tmp R3 hp no b2) ⟨p, _, rfl, upd_same, ⟨_, rfl, RepK.merge .nil rk⟩, b2, R.fd p hp, hp, no⟩
/-- the pairs of a dict display -/
inductive DK (X : Cx) (W : WX) : List (Option Expr) → List Expr → List (Key × (Env → Res RV)) → Prop where
  | nil : DK X W [] [] []
  | cons {k v : Expr} {key : Key} {f : Env → Res RV} {ks : List (Option Expr)} {vs : List Expr} {fs : List (Key × (Env → Res RV))} (hk : PE X k (tC (kV key))) (hv : DE X W v f) (r : DK X W ks vs fs) : DK X W (some k :: ks) (v :: vs) ((key, f) :: fs)
theorem DK.pps {pos : Pos} {ks : List (Option Expr)} {vs : List Expr} {fs : List (Key × (Env → Res RV))} (h : DK X W ks vs fs) : PPs X pos ks vs (fs.map fun p => (tC (kV p.1), rdE W X.K p.2)) := by
  induction h with
  | nil => exact pps_nil
  | cons hk hv r ih => exact pps_cons hk hv ih
theorem DK.some {ks : List (Option Expr)} {vs : List Expr} {fs : List (Key × (Env → Res RV))} (h : DK X W ks vs fs) : ks.all (·.isSome) = true ∧ ks.length = vs.length := by
  induction h with
  | nil => exact ⟨rfl, rfl⟩
  | cons hk hv r ih => exact ⟨by simpa using ih.1, congrArg (· + 1) ih.2⟩
theorem de_disp {k : Option Expr} {ks : List (Option Expr)} {vs : List Expr} {fs : List (Key × (Env → Res RV))} {pos : Pos} (h : DK X W (k :: ks) vs fs) (h15 : (k :: ks).length ≤ 15 := by decide) : DE X W (.Dict (k :: ks) vs pos) (eDct fs) :=
  PE.weak (pe_disp h.pps h.some.1 h.some.2 (by simp) h15) fun σ H Q h => rdDisp σ H Q h
/-! ### xs[::-1] -/
def eRev (f : Env → Res RV) : Env → Res RV := fun e => (f e).bind fun x e1 => match peek e1 x with
  | some (.lst ds) => .ok (.m (.l ds.reverse)) e1
  | _ => .no
theorem de_rev {a : Expr} {f : Env → Res RV} {k : Nat} {p1 p2 p3 pos : Pos} (h : DE X W a f) : DE X W (.Subscript a (.Slice none none (some (.UnaryOp .USub (.Constant (.int 1) k p1) p2)) p3) pos) (eRev f) := PE.weak (pe_revL h) fun σ H Q ⟨G, B, e, hK, R, q⟩ => by
  refine ⟨G, B, e, hK, R, post.bind q fun x e1 v H1 B1 R1 P1 q => ?_⟩
  split at q
  · rename_i ds hp
    obtain ⟨a, vs, rfl, ha, r⟩ := (RepR.top R1 P1 hp).lst R1.bh
    refine ⟨a, vs, rfl, SqL.of ha, fun p hp => ?_⟩
    have g := Grow.own (o := .lst vs.reverse) R1.bh hp
    exact q (.ref p) _ _ (R1.grow g) (OutOk.rep (B' := B1) (x := .m (.l ds.reverse)) R1 ⟨p, .lst vs.reverse, rfl, hp, upd_same, ⟨_, rfl, r.rev⟩, R1.bh.free hp⟩)
  · exact q.elim
/-! ### what never happens, what the module holds -/
def eNo : Env → Res RV := fun _ => .no
def sNo : Env → Res Fl := fun _ => .no
theorem ds_never {st : Stmt} (h : PS X st tNever) : DS X W st sNo := PS.weak h fun D σ H ⟨G, B, e, hK, R, q⟩ => q
end
end DL

namespace DL
open PySem L2 PySem.Spec PyProof.Rows
/-! ### a, b = x, y -/
def fresh : RV → Bool
  | .b _ => false
  | _ => true
theorem owned_at {σ : L2.St} {e : Env} {i : Nat} {s : Slot} {v : V} {a : Addr} (h : Owned (σ.set i (some v)) (e.set i s) a) : Owned σ e a ∨ v = .ref a ∧ ∃ p q m, s = .o p q m := by
  obtain ⟨j, p, q, m, h1, h2⟩ := h
  by_cases z : i = j
  · subst z
    by_cases l : i < e.length
    · rw [List.getElem?_set_self l] at h1
      cases h1
      by_cases l2 : i < σ.length
      · rw [List.getElem?_set_self l2] at h2
        cases h2
        exact .inr ⟨rfl, _, _, _, rfl⟩
      · rw [List.set_eq_of_length_le (by omega)] at h2
        rw [List.getElem?_eq_none (by omega)] at h2
        cases h2
    · rw [List.getElem?_eq_none (by simp; omega)] at h1
      cases h1
  · rw [List.getElem?_set_ne z] at h1 h2
    exact .inl ⟨j, p, q, m, h1, h2⟩
/-- a new value is stored; another one stays what it was -/
theorem assign_keep {G : Gm} {B H : Hp} {σ : L2.St} {e e' : Env} {i : Nat} {x y : RV} {v w : V} {fl : Fl} (R : Rel G B H σ e) (P : RepR G B H σ e x v) (Q : RepR G B H σ e y w) (fx : fresh x = true) (fy : fresh y = true) (ne : ∀ m m', x = .m m → y = .m m' → v ≠ w) (h : assign i x e = .ok fl e') :
    Rel G B H (σ.set i (some v)) e' ∧ RepR G B H (σ.set i (some v)) e' y w := by
  unfold assign at h
  by_cases hf : free e i = true
  case neg => rw [if_neg hf] at h; cases h
  rw [if_pos hf] at h
  have l := free_len hf
  cases x with
  | b _ => cases fx
  | v d =>
    cases h
    refine ⟨R.put l ⟨v, rfl, P⟩ (fun _ _ _ _ z => nomatch z), ?_⟩
    cases y with
    | b _ => cases fy
    | v d' => exact Q
    | m m =>
      obtain ⟨a, o, e1, e2, e3, e4, e5, e6, e7⟩ := Q
      refine ⟨a, o, e1, e2, e3, e4, e5, e6, fun z => ?_⟩
      rcases owned_at z with z | ⟨_, _, _, _, z⟩
      · exact e7 z
      · cases z
  | m mx =>
    cases h
    obtain ⟨a, o, e1, e2, e3, e4, e5, e6, e7⟩ := P
    subst e1
    refine ⟨R.put l ⟨a, o, rfl, e2, e3, e4, .inl e6, by simpa using e5⟩ fun p q m' b z1 z2 => by cases z2; exact e7, ?_⟩
    cases y with
    | b _ => cases fy
    | v d' => exact Q
    | m m =>
      obtain ⟨a', o', q1, q2, q3, q4, q5, q6, q7⟩ := Q
      subst q1
      refine ⟨a', o', rfl, q2, q3, q4, q5, q6, fun z => ?_⟩
      rcases owned_at z with z | ⟨z, _⟩
      · exact q7 z
      · exact ne _ _ rfl rfl z
/-- what came later is another thing -/
theorem later_ne {G : Gm} {B1 H1 B2 H2 : Hp} {σ : L2.St} {e1 e2 : Env} {o1 : Addr → Prop} {x y : RV} {v w : V} (P : RepR G B1 H1 σ e1 x v) (Q : RepR (G.at B1 H1 o1) B2 H2 σ e2 y w) : ∀ m m', x = .m m → y = .m m' → v ≠ w := by
  intro m m' hx hy z
  subst hx hy z
  obtain ⟨a, o, q1, q2, _⟩ := P
  obtain ⟨a', o', p1, p2, p3, p4, p5, p6, p7⟩ := Q
  rw [q1] at p1
  cases p1
  rw [show (G.at B1 H1 o1).H0 a = H1 a from rfl, q2] at p6
  cases p6
theorem assign_nx {i : Nat} {x : RV} {e e' : Env} {fl : Fl} (h : assign i x e = .ok fl e') : fl = .nx := by
  unfold assign at h
  split at h
  · split at h
    · cases h; rfl
    · split at h
      · cases h; rfl
      · cases h
  · cases h
theorem assign_noexc {i : Nat} {x : RV} {e e' : Env} {z : EX} : assign i x e ≠ .exc z e' := by
  intro h
  unfold assign at h
  split at h
  · split at h
    · cases h
    · split at h <;> cases h
  · cases h
def sPar (i j : Nat) (f g : Env → Res RV) : Env → Res Fl := fun e => (f e).bind fun x e1 => (g e1).bind fun y e2 => if (fresh x && fresh y) = true then (assign i x e2).bind fun _ e3 => assign j y e3 else .no
def sPar3 (i j k : Nat) (f g h : Env → Res RV) : Env → Res Fl := fun e => (f e).bind fun x e1 => (g e1).bind fun y e2 => (h e2).bind fun z e3 => if (fresh x && fresh y && fresh z) = true then (assign i x e3).bind fun _ e4 => (assign j y e4).bind fun _ e5 => assign k z e5 else .no
section
variable {X : Cx} {W : WX}
theorem ds_par {i j : Nat} {x y : Str} {a b : Expr} {f g : Env → Res RV} {px py pt pos : Pos} {kt k2 pt2} (hc : X.calm = true) (hN : X.N.Nodup) (hi : X.N[i]? = some x) (hj : X.N[j]? = some y) (hij : i ≠ j)
    (hx : X.env.scope.names.lookup x = some .local) (hy : X.env.scope.names.lookup y = some .local) (ha : DE X W a f) (hb : DE X W b g) (hw : swappedStores [.Tuple [.Name x px, .Name y py] kt pt] (.Tuple [a, b] k2 pt2) X.env = pure (some [x, y]))
    (hs : swapsWithSole [.Tuple [.Name x px, .Name y py] kt pt] (.Tuple [a, b] k2 pt2) pos.line X.env = pure false := by rfl) (s1 : starEach [a, b] X.env = (false, eval a X.env) :: starEach [b] X.env := by rfl) (s2 : starEach [b] X.env = (false, eval b X.env) :: starEach [] X.env := by rfl) :
    DS X W (.Assign [.Tuple [.Name x px, .Name y py] kt pt] (.Tuple [a, b] k2 pt2) pos) (sPar i j f g) :=
  PS.weak (ps_par hc hN hi hj hij hx hy (pa_cons ha (pa_cons hb pa_nil s2) s1) hw hs) fun D σ H ⟨G, B, e, hK, R, q⟩ => by
    refine (show rdE W X.K f σ H _ from ⟨G, B, e, hK, R, postS.of R q fun x e1 v H1 B1 R1 S1 P1 q => ?_⟩)
    refine (show rdE W X.K g σ H1 _ from ⟨G, B1, e1, hK, R1, postS.of R1 q fun y e2 w H2 B2 R2 S2 P2 q => ?_⟩)
    refine ⟨v, w, rfl, ?_⟩
    have Px := RepR.back R P1
    have Px2 := RepR.keep R1 Px S2
    have Py := RepR.back R1 P2
    have q : postS W G B2 D (if (fresh x && fresh y) = true then (assign i x e2).bind fun _ e3 => assign j y e3 else .no) := q
    split at q
    case isFalse => exact q.elim
    rename_i ff
    rw [Bool.and_eq_true] at ff
    cases h1 : assign i x e2 with
    | no => rw [h1] at q; exact q.elim
    | exc z e3 => exact (assign_noexc h1).elim
    | ok fl e3 =>
      rw [h1] at q
      obtain ⟨R3, Py3⟩ := assign_keep R2 Px2 Py ff.1 ff.2 (later_ne Px P2) h1
      exact assign_ok R3 (.inl rfl) Py3 q
theorem ds_par3 {i j k : Nat} {x y z : Str} {a b c : Expr} {f g h : Env → Res RV} {px py pz pt pos : Pos} {kt k2 pt2} (hc : X.calm = true) (hN : X.N.Nodup) (hi : X.N[i]? = some x) (hj : X.N[j]? = some y) (hk : X.N[k]? = some z) (hij : i ≠ j) (hik : i ≠ k) (hjk : j ≠ k)
    (hx : X.env.scope.names.lookup x = some .local) (hy : X.env.scope.names.lookup y = some .local) (hz : X.env.scope.names.lookup z = some .local) (ha : DE X W a f) (hb : DE X W b g) (hcc : DE X W c h) (hw : swappedStores [.Tuple [.Name x px, .Name y py, .Name z pz] kt pt] (.Tuple [a, b, c] k2 pt2) X.env = pure (some [x, y, z]))
    (hs : swapsWithSole [.Tuple [.Name x px, .Name y py, .Name z pz] kt pt] (.Tuple [a, b, c] k2 pt2) pos.line X.env = pure false := by rfl) (s1 : starEach [a, b, c] X.env = (false, eval a X.env) :: starEach [b, c] X.env := by rfl) (s2 : starEach [b, c] X.env = (false, eval b X.env) :: starEach [c] X.env := by rfl) (s3 : starEach [c] X.env = (false, eval c X.env) :: starEach [] X.env := by rfl) :
    DS X W (.Assign [.Tuple [.Name x px, .Name y py, .Name z pz] kt pt] (.Tuple [a, b, c] k2 pt2) pos) (sPar3 i j k f g h) :=
  PS.weak (ps_par3 hc hN hi hj hk hij hik hjk hx hy hz (pa_cons ha (pa_cons hb (pa_cons hcc pa_nil s3) s2) s1) hw hs) fun D σ H ⟨G, B, e, hK, R, q⟩ => by
    refine (show rdE W X.K f σ H _ from ⟨G, B, e, hK, R, postS.of R q fun x e1 v H1 B1 R1 S1 P1 q => ?_⟩)
    refine (show rdE W X.K g σ H1 _ from ⟨G, B1, e1, hK, R1, postS.of R1 q fun y e2 w H2 B2 R2 S2 P2 q => ?_⟩)
    refine (show rdE W X.K h σ H2 _ from ⟨G, B2, e2, hK, R2, postS.of R2 q fun z e3 u H3 B3 R3 S3 P3 q => ?_⟩)
    refine ⟨v, w, u, rfl, ?_⟩
    have Px := RepR.back R P1
    have Px2 := RepR.keep R1 Px S2
    have Px3 := RepR.keep R2 Px2 S3
    have Py := RepR.back R1 P2
    have Py3 := RepR.keep R2 Py S3
    have Pz := RepR.back R2 P3
    have q : postS W G B3 D (if (fresh x && fresh y && fresh z) = true then (assign i x e3).bind fun _ e4 => (assign j y e4).bind fun _ e5 => assign k z e5 else .no) := q
    split at q
    case isFalse => exact q.elim
    rename_i ff
    rw [Bool.and_eq_true, Bool.and_eq_true] at ff
    cases h1 : assign i x e3 with
    | no => rw [h1] at q; exact q.elim
    | exc z e3 => exact (assign_noexc h1).elim
    | ok fl e4 =>
      rw [h1] at q
      have q : postS W G B3 D ((assign j y e4).bind fun _ e5 => assign k z e5) := q
      obtain ⟨R4, Py4⟩ := assign_keep R3 Px3 Py3 ff.1.1 ff.1.2 (later_ne Px P2) h1
      obtain ⟨_, Pz4⟩ := assign_keep R3 Px3 Pz ff.1.1 ff.2 (later_ne Px2 P3) h1
      cases h2 : assign j y e4 with
      | no => rw [h2] at q; exact q.elim
      | exc z e3 => exact (assign_noexc h2).elim
      | ok fl2 e5 =>
        rw [h2] at q
        obtain ⟨R5, Pz5⟩ := assign_keep R4 Py4 Pz4 ff.1.2 ff.2 (later_ne Py P3) h2
        exact assign_ok R5 (.inl rfl) Pz5 q
/-! ### a name of the module -/
theorem de_gc {x : Str} {v : V} {d : D} {pos : Pos} (hg : Gl X x) (hm : ∃ u, X.mg x = some u ∧ RelV v u) (r : ∀ B, Rep X.K B v d) (hd : (x == ("__debug__" : Str)) = false := by decide) : DE X W (.Name x pos) (eC d) := by
  obtain ⟨u, h1, h2⟩ := hm
  exact de_c (pe_glob hg h1 h2 hd) r
theorem de_tyN {x : Str} {n : String} {pos : Pos} (hg : Gl X x) (hm : X.mg x = none) (hv : bootBuiltins x = some (.type n)) (hn : x ≠ "__name__" := by decide) (hd : (x == ("__debug__" : Str)) = false := by decide) : DE X W (.Name x pos) (eC (.ty n)) := de_c (pe_bltn (v := .ty n) hg hm hv rfl hn hd) fun _ => .ty n
theorem takes0 {Y : Cx} : Takes Y W0 := fun u s' ⟨_, _, _, _, _, _, _, _, _, _, _, _, _, _, _, _, w⟩ => w.elim
end
end DL

namespace DL
open PySem L2 PySem.Spec PyProof.Rows
def gNeg : D → Option RV
  | .int i => some (.v (.int (-i)))
  | _ => none
section
variable {X : Cx}
theorem p_neg : Pure1 X.K (rU fun i => .int (-i)) gNeg := fun B H v d out Q s h hg q => by
  unfold gNeg at hg
  split at hg
  · cases hg; exact ⟨_, h.int, q_v s q (.int _)⟩
  · cases hg
theorem guards_in {A : Around} {env : PySem.Env} (h : A.guards = some []) : (A.deeper env).guards = some [] := h
end
/-- the promise of a def by what the module holds -/
theorem def_mk {P : Program} {w : World} {K : PySem.W.Frag} {mg : Str → Option Value} {base : Heap} {x : Str} {st : Stmt} {N ps : List Str} {k : Nat} {io : Option Nat} {b : Env → Res Fl}
    (T : ∃ f fd, mg x = some (.ref f) ∧ PySem.W.keepIn K (.ref f) = true ∧ Fun K x x st f fd ∧ Binds K fd ps []) (S : FnScope N ps (defScope st))
    (hbody : ∀ (f : Addr) (cdv : Value) (A : Around) (outer : List PySem.Env) (s : Shared) (H : Hp) (E : XK), A.guards = some [] → Room k (A.deeper (envOfC x (defScope st) s.heap.objs.size f cdv)) →
      DSs (cxOf (L2.CX P w) P w K mg base N x (defScope st) f cdv A outer s H E) (wE E) (defBody st) b) : Def P w K mg base x (k + 1) ps.length [] io (runDef N.length io b) := by
  obtain ⟨f, fd, hm, hk, F, hb⟩ := T
  exact ⟨f, fd, ps, [], [], hm, hk, hb, .nil, fun _ => .nil, def_ok F S (hbody f)⟩
end DL
namespace DL
open PySem L2
theorem room_1 {k : Nat} {A : Around} (r : Room k A) : A.units + 1 < cLine := by have := r.un; omega
theorem room_64 {k : Nat} {A : Around} (r : Room k A) : A.units + 64 < cLine := by have := r.un; omega
theorem room_100 {k : Nat} {A : Around} (r : Room k A) : A.units + 100 < cLine := by have := r.un; omega
end DL

namespace DL
open PySem L2 PySem.Spec PyProof.Rows
/-! ### the law's own call, for promises that know the caller's guards -/
/-- a heap in which at most the script is known -/
structure Lone (P : Program) (w : World) (K : PySem.W.Frag) (T : Hp) (hp : Heap) (sc : Addr) (ns : List Int) : Prop where
  fine : HOk P w T hp
  only : L2.Only T
  list : SqL K T sc (ns.map V.int)
  one : ∀ c, T c ≠ none → c = sc
  mine : T sc ≠ none → K.lookup sc = none
theorem lone_ex {P : Program} {w : World} {K : PySem.W.Frag} {hp : Heap} {sc : Addr} {us : List Value} {ns : List Int} (kin : K.In hp) (at0 : hp.get? sc = some { cls := .type "list", data := .seq us.toArray }) (num : IntsAre us ns) (few : ns.length ≤ sizeLine) : ∃ T, Lone P w K T hp sc ns := by
  have rel := vals_ints num
  have len := num.length
  cases kl : K.lookup sc with
  | some ob =>
    have same := kin sc ob kl
    rw [at0] at same
    cases same
    refine ⟨fun _ => none, fun _ _ z => (nomatch z), fun _ => Or.inl rfl, Or.inr ⟨_, us.toArray, _, kl, rfl, rfl, rfl, ?_, by simpa using rel⟩, fun c z => (z rfl).elim, fun z => (z rfl).elim⟩
    rw [List.size_toArray, len]
    exact few
  | none =>
    have yes : ∀ {c : Addr} {u : HO}, (if c = sc then some (HO.frz { cls := .type "list", data := .seq us.toArray } (.lst (ns.map V.int))) else none) = some u → c = sc ∧ u = HO.frz { cls := .type "list", data := .seq us.toArray } (.lst (ns.map V.int)) := fun {c u} z => by
      split at z
      · rename_i q
        cases z
        exact ⟨q, rfl⟩
      · cases z
    refine ⟨fun c => if c = sc then some (HO.frz { cls := .type "list", data := .seq us.toArray } (.lst (ns.map V.int))) else none, ?_, ?_, Or.inl (Or.inr ⟨_, if_pos rfl⟩), ?_, fun _ => kl⟩
    · intro c u z
      obtain ⟨rfl, rfl⟩ := yes z
      exact ⟨at0, by rw [List.length_map]; exact few, us, _, rel, at0⟩
    · intro c
      by_cases q : c = sc
      · exact Or.inr ⟨_, _, if_pos q⟩
      · exact Or.inl (if_neg q)
    · intro c z
      by_cases q : c = sc
      · exact q
      · exact (z (if_neg q)).elim
theorem law_run {P : Program} {w : World} {K : PySem.W.Frag} {mg mb : Str → Option Value} {k : Nat} {fa sc : Addr} {fd : FuncData} {x : Str} {sp : Sp} {st : Shared} {us : List Value} {ns : List Int}
    (kin : K.In st.heap) (top : st.heap.Ns mainGlobals mg) (blt : st.heap.Ns builtinsNs mb) (bb : ∀ y : Str, y ≠ "__name__" → mb y = bootBuiltins y) (nol : st.heap.NoLimit) (gens : st.gens = #[])
    (at0 : st.heap.get? sc = some { cls := .type "list", data := .seq us.toArray }) (num : IntsAre us ns) (few : ns.length ≤ sizeLine) (room : Room k callerA)
    (F : ∀ base : Heap, K.In base → base.Ns mainGlobals mg → FnG P w K mg base k fa fd [x] sp) (bind : ∀ (z : Shared) (u : Value), BindsTo z fd ⟨[u], []⟩ [(x, u)])
    (want : ∀ T : Hp, SqL K T sc (ns.map V.int) → sp [.ref sc] T (fun v _ => v = .bl true) fun _ _ _ => False) :
    codeAny (model P w) callerA (.call (.ref fa) ⟨[.ref sc], []⟩) (fun r z => r = .ok (.ret (.bool true)) ∧ OldK st.heap z.heap ∧ z.os = st.os ∧ AllBare z.gens) st := by
  obtain ⟨T, L⟩ := lone_ex (P := P) (w := w) kin at0 num few
  have dictOut : ∀ {c : Addr} {ob : Obj} {es : Array DictEntry} {n : Nat}, st.heap.get? c = some ob → ob.data = .dict es n → T c = none := fun {c ob es n} q1 q2 => by
    cases tc : T c with
    | none => rfl
    | some u =>
      obtain rfl := L.one c (by rw [tc]; exact fun z => nomatch z)
      rw [at0] at q1
      cases q1
      exact (nomatch q2)
  have ns2 : ∀ {c : Addr} {m : Str → Option Value}, st.heap.Ns c m → (hidT st.heap T).Ns c m := fun {c m} ⟨ob, es, n, q1, q2, q3⟩ => ⟨ob, es, n, hidT_get q1 (dictOut q1 q2), q2, q3⟩
  have kin2 : K.In (hidT st.heap T) := fun c ob q => by
    refine hidT_get (kin c ob q) ?_
    cases tc : T c with
    | none => rfl
    | some u =>
      have some1 : T c ≠ none := by rw [tc]; exact fun z => nomatch z
      obtain rfl := L.one c some1
      rw [L.mine some1] at q
      cases q
  have env : Env0 P w K mg (hidT st.heap T) callerA [] st T := by
    refine ⟨rfl, ⟨kin2, ns2 top, ⟨mb, ns2 blt, bb⟩, ?_⟩, fun c ob q => of_hidT q, Nat.le_of_eq (hidT_size _ _), trivial, fun c z => ?_, L.fine, .of_eq gens⟩
    · obtain ⟨mc, q1, q2⟩ := nol
      exact ⟨mc, ns2 q1, q2⟩
    · cases z
  have go := (F _ kin2 (ns2 top)).run callerA [] st T ⟨[.ref sc], []⟩ [.ref sc] [.ref sc] (fun v _ => v = .bl true) (fun _ _ _ => False) rfl room env (bind st (.ref sc)) (.cons rfl .nil) (want T L.list)
  refine codeAny_mono go fun r z hq => ?_
  match r, hq with
  | .error ex, hq =>
    obtain ⟨_, _, _, _, _, _, _, _, _, _, _, _, no⟩ := hq
    exact no.elim
  | .ok .next, hq => exact hq.elim
  | .ok .brk, hq => exact hq.elim
  | .ok .cont, hq => exact hq.elim
  | .ok (.ret u), hq =>
    obtain ⟨v, T', os, bare, un, fine2, rv, rfl⟩ := hq
    obtain rfl : u = Value.bool true := rv
    refine ⟨rfl, OldK.of_keep fun c ob q => ?_, os, bare⟩
    cases tc : T c with
    | none => exact un.keep c ob q tc (by intro z; cases z) (by simp)
    | some h =>
      rcases L.only c with y | ⟨ob2, xs, y⟩
      · rw [y] at tc; cases tc
      · obtain ⟨g1, _⟩ := L.fine c _ y
        obtain ⟨g2, _⟩ := fine2 c _ (un.frzs c ob2 _ y)
        rw [q] at g1
        cases g1
        exact g2
theorem law_walk {l : PySem.W.OpenLaw} {n k : Nat} {q : Program} {loose : List Str} {XP : (Str → Option Value) → Heap → Prop} {YP : World → Heap → Prop} {d : DefRec} {K : Params → PySem.W.Frag} {x : Str} {R : Env → Ret}
    (most : l.most = some n) (few : n ≤ sizeLine) (plain : d.params.defaults = []) (room : Room k callerA) (kin : ∀ (w : World) (h : Heap), YP w h → (K w.params).In h)
    (F : ∀ (w : World) (mg : Str → Option Value) (fa : Addr) (h : Heap), (K w.params).In h → h.Ns mainGlobals mg → mg d.name = some (.ref fa) →
      ∃ fd : FuncData, (∀ (z : Shared) (u : Value), BindsTo z fd ⟨[u], []⟩ [(x, u)]) ∧ ∀ base : Heap, (K w.params).In base → base.Ns mainGlobals mg → FnG l.prog w (K w.params) mg base k fa fd [x] (spD (K w.params) 1 none R))
    (want : ∀ ns : List Int, ns.length ≤ n → R [.v (.fl (ns.map D.int))] = .ok (.v (.bl true)) none) :
    PySem.W.WalkO q loose XP YP l.row.toRowW d [] (fun f vs => PySem.call f vs) := by
  refine Att.attach_call most plain fun w z0 st mg mb fa ob pm cd doc sc us ns G Y ho hd hcd hmg hobj num len gens => ?_
  have kin1 := kin w _ Y
  obtain ⟨fd, bind, ok⟩ := F w mg fa _ kin1 G.T.g hmg
  refine law_run kin1 G.T.g G.T.b G.T.builtins G.T.nolimit gens hobj num (Nat.le_trans len few) room ok bind fun T sq => ?_
  have reps : ∀ (B : Hp) (is : List Int), RepA (K w.params) B (is.map V.int) (is.map D.int) := fun B is => by
    induction is with
    | nil => exact .nil
    | cons i r ih => exact .cons (.int i) ih
  refine ⟨rfl, T, [.v (.fl (ns.map D.int))], ⟨rfl, Same.refl T, Same.refl T, fun _ h => h, fun _ h => h, fun _ _ h _ => h, fun _ _ _ _ h => h, ?_, ?_⟩, ?_, ?_⟩
  · intro i s hs
    match i, hs with
    | 0, hs =>
      cases hs
      exact ⟨.ref sc, rfl, .fl sq (reps T ns)⟩
    | i + 1, hs => simp at hs
  · intro i j p q' p' q2 m m' a h1
    match i, h1 with
    | 0, h1 => cases h1
    | i + 1, h1 => simp at h1
  · intro i s hs
    match i, hs with
    | 0, hs =>
      cases hs
      exact fun z => nomatch z
    | i + 1, hs => simp at hs
  · rw [want ns len]
    intro v B' H' _ r
    cases (show Rep (K w.params) B' v (.bl true) from r)
    rfl
end DL

/-! Exceptions over data: try, isinstance of a caught one, its attributes, raise. -/
namespace DL
open PySem L2 PySem.Spec PyProof.Rows

/-! ### try -/
/-- a clause over data: its class's name, its name's slot, its suite -/
abbrev CatchD := Str × Nat × (Env → Res Fl)
/-- the clause's name goes -/
def shut (i : Nat) : Res Fl → Res Fl
  | .ok (.rt x) e => .ok (.rt x) e
  | .ok fl e => .ok fl (e.set i .u)
  | _ => .no
def sCatch (sub : Str → Str → Option Bool) : List CatchD → EX → Env → Res Fl
  | [], x, e => .exc x e
  | (c, i, f) :: ls, x, e => match sub x.cls c with
    | some true => if free e i = true then shut i (f (e.set i (.v (.exn x.cls x.fs)))) else .no
    | some false => sCatch sub ls x e
    | none => .no
def sTry (sub : Str → Str → Option Bool) (b : Env → Res Fl) (ls : List CatchD) : Env → Res Fl := fun e => match b e with
  | .exc x e1 => sCatch sub ls x e1
  | r => r
theorem Rel.unset {G : Gm} {B H : Hp} {σ : L2.St} {e : Env} {i : Nat} (R : Rel G B H σ e) : Rel G B H (σ.set i none) (e.set i .u) := by
  have back : ∀ {j : Nat} {p q : Bool} {m : M}, (e.set i Slot.u)[j]? = some (.o p q m) → i ≠ j ∧ e[j]? = some (.o p q m) := fun {j p q m} h => by
    by_cases z : i = j
    · subst z
      by_cases l : i < e.length
      · rw [List.getElem?_set_self l] at h; cases h
      · rw [List.getElem?_eq_none (by simpa using l)] at h; cases h
    · rw [List.getElem?_set_ne z] at h; exact ⟨z, h⟩
  refine ⟨by simp [R.len], R.b0, R.bh, R.fd, R.dm, R.fr, R.bf, fun j t ht => ?_, fun j k p q p' q' m m' a h1 h2 g1 g2 => ?_⟩
  · by_cases z : i = j
    · subst z
      by_cases l : i < e.length
      · rw [List.getElem?_set_self l] at ht; cases ht; trivial
      · rw [List.getElem?_eq_none (by simpa using l)] at ht; cases ht
    · rw [List.getElem?_set_ne z] at ht ⊢
      exact R.sl j t ht
  · obtain ⟨n1, h1⟩ := back h1
    obtain ⟨n2, h2⟩ := back h2
    rw [List.getElem?_set_ne n1] at g1
    rw [List.getElem?_set_ne n2] at g2
    exact R.ne j k p q p' q' m m' a h1 h2 g1 g2
/-- what the module holds of classes that clauses name -/
def ClsF (K : PySem.W.Frag) (mg : Str → Option Value) (sub : Str → Str → Option Bool) (c : Str) : Prop :=
  ∃ C', mg c = some (.ref C') ∧ ∀ n b, sub n c = some b → ∀ C, ClAt K n C → PySem.W.exmOne K (.ref C) (.ref C') = some b
inductive DCls (X : Cx) (sub : Str → Str → Option Bool) : List ExceptHandler → List CatchD → Prop
  | nil : DCls X sub [] []
  | cons {c n : Str} {i : Nat} {f : Env → Res Fl} {b : Stmt} {body : List Stmt} {p1 p2 : Pos} {hs : List ExceptHandler} {ls : List CatchD} (hN : X.N.Nodup) (hi : X.N[i]? = some n) (hln : X.env.kindOf n = some .local) (hg : Gl X c) (hdb : (c == ("__debug__" : Str)) = false)
      (hc : ClsF X.K X.mg sub c) (hsu : ∀ (a : Addr) (pn : List (Addr × Obj)), DSs (X.suite a pn) W0 (b :: body) f) (more : DCls X sub hs ls) : DCls X sub (.ExceptHandler (some (.Name c p1)) (some n) (b :: body) p2 :: hs) ((c, i, f) :: ls)
def Fits (K : PySem.W.Frag) (sub : Str → Str → Option Bool) (l : Cl) (q : CatchD) : Prop :=
  l.i = q.2.1 ∧ l.ts = rdS W0 K q.2.2 ∧ ∀ n b, sub n q.1 = some b → ∀ C, ClAt K n C → PySem.W.exmOne K (.ref C) l.c = some b
theorem DCls.get {X : Cx} {sub : Str → Str → Option Bool} {hs : List ExceptHandler} {qs : List CatchD} (h : DCls X sub hs qs) : ∃ ls, ClsOk X hs ls ∧ Paired (Fits X.K sub) ls qs := by
  induction h with
  | nil => exact ⟨[], .nil, .nil⟩
  | @cons c n i f b body p1 p2 hs qs hN hi hln hg hdb hc hsu more ih =>
    obtain ⟨ls, h1, h2⟩ := ih
    obtain ⟨C', hm, hx⟩ := hc
    exact ⟨⟨.ref C', i, rdS W0 X.K f⟩ :: ls, .cons hN hi hln ⟨hg, hdb, .inl hm⟩ hsu h1, .cons ⟨rfl, rfl, hx⟩ h2⟩
theorem catch_ok {K : PySem.W.Frag} {sub : Str → Str → Option Bool} {W : WX} {D : Ends} {G : Gm} {σ : L2.St} {H B : Hp} {e : Env} {x : EX} {cls : Value} {d : Option Addr} (hK : G.K = K) (R : Rel G B H σ e) (hx : RepX G.K B x cls d) :
    ∀ {ls : List Cl} {qs : List CatchD}, Paired (Fits K sub) ls qs → postS W G B D (sCatch sub qs x e) → wCl K W D ls cls d σ H
  | _, _, .nil, q => q cls d σ H B R (Same.refl B) hx
  | l :: ls, (c, i, f) :: qs, .cons ft more, q => by
    obtain ⟨ei, et, ex⟩ := ft
    have q : postS W G B D (match sub x.cls c with
      | some true => if free e i = true then shut i (f (e.set i (.v (.exn x.cls x.fs)))) else .no
      | some false => sCatch sub qs x e
      | none => .no) := q
    obtain ⟨C, vs, hc, hat, hxd, hf⟩ := id hx
    subst hK
    cases hs : sub x.cls c with
    | none => rw [hs] at q; exact q.elim
    | some b =>
      rw [hs] at q
      refine ⟨b, by rw [hc]; exact ex _ _ hs C hat, fun hb a na => ?_, fun hb => ?_⟩
      · subst hb
        dsimp only at q ei et
        split at q
        case isFalse => exact q.elim
        rename_i hfr
        have hle := free_len hfr
        rw [et, ei, hc]
        have g := Grow.new (o := exT a (.ref C) d) R.bh na
        have R1 := R.grow g
        have R2 : Rel G (upd B a (exT a (.ref C) d)) (upd H a (exT a (.ref C) d)) (σ.set i (some (.ref a))) (e.set i (.v (.exn x.cls x.fs))) :=
          R1.put hle ⟨.ref a, rfl, .exn upd_same hat (hxd.mono fun b o q _ _ => g.eb b o q) (hf.mono g.eb)⟩ fun _ _ _ _ z => nomatch z
        refine ⟨G, _, _, rfl, R2, ?_⟩
        have q := q.up g.eb
        cases hff : f (e.set i (.v (.exn x.cls x.fs))) with
        | no => rw [hff] at q; exact q.elim
        | exc y e1 => rw [hff] at q; exact q.elim
        | ok fl e1 =>
          rw [hff] at q
          cases fl with
          | nx => exact fun σ' H' B' R' s => q _ H' B' R'.unset s
          | bk => exact fun σ' H' B' R' s => q _ H' B' R'.unset s
          | ct => exact fun σ' H' B' R' s => q _ H' B' R'.unset s
          | rt y => exact q
      · subst hb
        exact catch_ok rfl R hx more q
theorem ds_try {X : Cx} {W : WX} {sub : Str → Str → Option Bool} {body : List Stmt} {h₀ : ExceptHandler} {hds : List ExceptHandler} {pos : Pos} {b : Env → Res Fl} {qs : List CatchD} (hs : X.stack = X.env :: X.outer) (hf : X.env.frame = some X.env.locals) (hex : X.ex = []) (tk : Takes X W)
    (hb : ∀ (W : WX) (pn : List (Addr × Obj)) (xe : Value → Shared → Prop), Takes (X.tr pn xe) W → PassesOwn (model X.prog X.w) X.A X.env xe → DSs (X.tr pn xe) W body b) (hh : DCls X sub (h₀ :: hds) qs) :
    DS X W (.Try body (h₀ :: hds) [] [] pos) (sTry sub b qs) := by
  obtain ⟨ls, h1, h2⟩ := hh.get
  refine PS.weak (ps_tryT (tb := fun W => rdS W X.K b) hs hf hex tk hb h1) fun D σ H ⟨G, B, e, hK, R, q⟩ => ⟨G, B, e, hK, R, ?_⟩
  have q : postS W G B D (match b e with
    | .exc x e1 => sCatch sub qs x e1
    | r => r) := q
  cases hbe : b e with
  | no => rw [hbe] at q; exact q
  | ok fl e1 =>
    rw [hbe] at q
    cases fl with
    | nx => exact q
    | bk => exact q
    | ct => exact q
    | rt y => exact q
  | exc x e1 =>
    rw [hbe] at q
    exact fun cls d σ' H' B' R' s hx => catch_ok hK R' hx h2 (q.up s)

/-! ### isinstance of a caught exception -/
/-- what the written part says of an exception's class, so that isinstance asks rightly -/
structure ExF (K : PySem.W.Frag) (C : Addr) : Prop where
  cl : (PySem.W.clsIn K C).isSome = true
  ga : PySem.W.findIn K (.ref C) "__getattribute__" = some (some (.builtin "BaseException.__getattribute__"))
  gg : PySem.W.findIn K (.ref C) "__getattr__" = some none
  be : PySem.W.subIn K (.ref C) (.type "BaseException") = some true
  hc : PySem.W.findIn K (.ref C) "__class__" = some (some (.builtin "object.__class__"))
  gs : PySem.W.specialIn K (.builtin "object.__class__") "__get__" = some (some (.builtin "getset_descriptor.__get__"))
  tk : PySem.W.takesIn K (.builtin "object.__class__") = some true
  ob : PySem.W.mroIn K C (.type "object") = some true
  hd : PySem.W.hasDictIn K C = true
def rIsT (K : PySem.W.Frag) : List V → Hp → VK → Prop := fun xs H Q => ∃ (a C : Addr) (d : Option Addr) (fs : List (Str × V)) (c : V) (cv : Value) (b : Bool), xs = [.ref a, c] ∧ H a = some (exT a (.ref C) d) ∧ XD H d fs ∧ ExF K C ∧ RelV c cv ∧ (∀ u, RelV c u → u = cv) ∧ PySem.W.kitOne K (.ref C) cv = some b ∧ Q (.bl b) H
theorem inst_of {X : Cx} {pins : List (Addr × Obj)} {σ : L2.St} {H : Hp} {s : Shared} {a C : Addr} {d : Option Addr} {fs : List (Str × V)} (I : Inv X pins σ H s) (ha : H a = some (exT a (.ref C) d)) (hd : XD H d fs) : ∃ (ox : Obj) (od : Option Obj), PySem.W.InstAt s.heap a ox C od := by
  obtain ⟨ob, us, e, z, f⟩ := exT_at I.hok ha
  cases d with
  | none =>
    refine ⟨ob, none, e, z.1, ?_, ?_⟩
    · unfold PySem.W.notCls; rw [f] <;> rfl
    · rw [z.2]; trivial
  | some dd =>
    obtain ⟨mA, hns, _⟩ := I.hok dd _ hd
    obtain ⟨od, ho, _⟩ := lookIn_ns hns
    refine ⟨ob, some od, e, z.1, ?_, ?_⟩
    · unfold PySem.W.notCls; rw [f] <;> rfl
    · rw [z.2]; exact ho
theorem call_isT {X : Cx} : CallR X (.builtin "isinstance") (rIsT X.K) := by
  intro pins s σ H xs us Q I r h
  obtain ⟨a, C, d, fs, c, cv, b, rfl, ha, hd, F, _, hcv, e, q⟩ := h
  match us, r with
  | [u, w], .cons ru (.cons rw' .nil) =>
    obtain rfl : u = Value.ref a := ru
    obtain rfl := hcv _ rw'
    obtain ⟨ox, od, J⟩ := inst_of I ha hd
    exact PySem.W.kia_one (PySem.W.kitx_exc F.cl F.ga F.gg F.be F.hc F.gs F.tk F.ob) I.kIn J e (fun z => nomatch z) fun tk => ⟨.bl b, H, I.kept (t' := tk) fun _ _ z => z, rfl, q⟩
/-- the tables: of which classes (of the program, of the language) an exception of a class is -/
structure ExTab where
  sub : Str → Str → Option Bool
  blt : Str → String → Option Bool
  fld : Str → Str → Bool
structure TabF (K : PySem.W.Frag) (mg : Str → Option Value) (tab : ExTab) : Prop where
  sub : ∀ n m b, tab.sub n m = some b → ∀ C C', ClAt K n C → ClAt K m C' → ExF K C ∧ PySem.W.kitOne K (.ref C) (.ref C') = some b
  blt : ∀ n m b, tab.blt n m = some b → ∀ C, ClAt K n C → ExF K C ∧ PySem.W.kitOne K (.ref C) (.type m) = some b
  fld : ∀ n f, tab.fld n f = true → ∀ C, ClAt K n C → ExF K C ∧ PySem.W.findIn K (.ref C) f = some none
def gIsX (tab : ExTab) : List D → Option RV
  | [.exn n _, .cls m] => (tab.sub n m).bind fun b => sv (.bl b)
  | [.exn n _, .ty m] => (tab.blt n m).bind fun b => sv (.bl b)
  | ds => gIsi ds
theorem p_isX {X : Cx} {tab : ExTab} (T : TabF X.K X.mg tab) : PureN X.K (fun xs H Q => rIsi X.K xs H Q ∨ rIsT X.K xs H Q) (gIsX tab) := fun B H vs ds out Q s h hg q => by
  unfold gIsX at hg
  split at hg
  · obtain ⟨b, e1, e2⟩ := bind1 hg
    cases e2
    match vs, h with
    | [v, w], .cons h1 (.cons h2 .nil) =>
      obtain ⟨a, C, d, fs, rfl, c1, c2, c3, _⟩ := h1.exn s
      obtain ⟨C', rfl, c4⟩ := h2.cls s
      obtain ⟨F, k⟩ := T.sub _ _ _ e1 C C' c1 c4
      exact .inr ⟨a, C, d, fs, .ref C', .ref C', b, rfl, c2, c3, F, rfl, fun u hu => hu, k, q_v s q (.bl _)⟩
  · obtain ⟨b, e1, e2⟩ := bind1 hg
    cases e2
    match vs, h with
    | [v, w], .cons h1 (.cons h2 .nil) =>
      obtain ⟨a, C, d, fs, rfl, c1, c2, c3, _⟩ := h1.exn s
      obtain rfl := h2.ty
      obtain ⟨F, k⟩ := T.blt _ _ _ e1 C c1
      exact .inr ⟨a, C, d, fs, .ty _, .type _, b, rfl, c2, c3, F, rfl, fun u hu => hu, k, q_v s q (.bl _)⟩
  · exact .inl (p_isi B H vs ds out Q s h hg q)
theorem call_isX {X : Cx} : CallR X (.builtin "isinstance") (fun xs H Q => rIsi X.K xs H Q ∨ rIsT X.K xs H Q) := fun pins s σ H xs us Q I r h => h.elim (fun h => call_isi pins s σ H xs us Q I r h) fun h => call_isT pins s σ H xs us Q I r h
/-- a class of the program, as a value -/
theorem de_cls {X : Cx} {W : WX} {x : Str} {pos : Pos} (hg : Gl X x) (hm : ∃ C, X.mg x = some (.ref C) ∧ ClAt X.K x C) (hd : (x == ("__debug__" : Str)) = false := by decide) : DE X W (.Name x pos) (eC (.cls x)) := by
  obtain ⟨C, h1, h2⟩ := hm
  exact de_gc (v := .ref C) hg ⟨.ref C, h1, rfl⟩ (fun K => .cls h2) hd
end DL

namespace DL
open PySem L2 PySem.Spec PyProof.Rows

/-! ### an attribute of a caught exception -/
theorem RepF.look {K : PySem.W.Frag} {B : Hp} {f : Str} : ∀ {vs : List (Str × V)} {ds : List (Str × D)} {d : D}, RepF K B vs ds → ds.lookup f = some d → ∃ v, vs.lookup f = some v ∧ Rep K B v d
  | _, _, _, .nil, h => by cases h
  | (k, v) :: vs, (_, d) :: ds, d', .cons h t, e => by
    rw [List.lookup_cons] at e ⊢
    cases z : f == k with
    | true =>
      rw [z] at e
      cases e
      exact ⟨v, rfl, h⟩
    | false =>
      rw [z] at e
      exact RepF.look t e
def tXt (K : PySem.W.Frag) (f : Str) (te : TE) : TE := fun σ H Q => te σ H fun x H1 => ∃ (a C : Addr) (d : Option Addr) (fs : List (Str × V)) (v : V), x = .ref a ∧ H1 a = some (exT a (.ref C) d) ∧ XD H1 d fs ∧ ExF K C ∧ PySem.W.findIn K (.ref C) f = some none ∧ fs.lookup f = some v ∧ Q v H1
theorem pe_xt {X : Cx} {e : Expr} {te : TE} {pos : Pos} {n : Str} (he : PE X e te) (hb : attributeBase e n X.env (eval e X.env) = eval e X.env := by rfl) : PE X (.Attribute e n pos) (tXt X.K n te) := by
  constructor
  intro pins s σ H Q I h
  refine attr_of hb (thn (he.run pins s σ H _ I h) fun u s1 ⟨x, H1, I1, rx, a, C, d, fs, v, ex, ha, hd, F, hno, l, q⟩ => ?_)
  subst ex
  obtain rfl : u = Value.ref a := rx
  obtain ⟨ob, us, e1, z1, f1⟩ := exT_at I1.hok ha
  cases d with
  | none =>
    have hd : fs = [] := hd
    subst hd
    cases l
  | some dd =>
    obtain ⟨mA, hns, hr⟩ := I1.hok dd _ hd
    obtain ⟨od, ho, hl⟩ := lookIn_ns hns
    obtain ⟨w, hw, rw'⟩ := RelO.some_of (v := v) (o := mA n) (by rw [← l]; exact hr n)
    have J : PySem.W.InstAt s1.heap a ob C (some od) := ⟨e1, z1.1, by unfold PySem.W.notCls; rw [f1] <;> rfl, by rw [z1.2]; exact ho⟩
    exact HandSPX.exc_get I1.kIn J F.ga F.gg F.be (PySem.W.findObj_own F.hd hno rfl (by rw [hl, hw])) (handed_of rw') ⟨v, H1, I1.tok _, rw', q⟩
def gFld (tab : ExTab) (f : Str) : D → Option RV
  | .exn n fs => if tab.fld n f = true then (fs.lookup f).bind sv else none
  | _ => none
theorem de_fld {X : Cx} {W : WX} {tab : ExTab} {a : Expr} {f : Str} {pos : Pos} {g : Env → Res RV} (T : TabF X.K X.mg tab) (h : DE X W a g) (hb : attributeBase a f X.env (eval a X.env) = eval a X.env := by rfl) : DE X W (.Attribute a f pos) (eUn (gFld tab f) g) :=
  PE.weak (pe_xt h hb) fun σ H Q ⟨G, B, e, hK, R, q⟩ => by
    refine ⟨G, B, e, hK, R, post.bind q fun x e1 v H1 B1 R1 P1 q => ?_⟩
    obtain ⟨out, ho, q⟩ := giv_post R1 q
    obtain ⟨d, h1, h2⟩ := bind1 ho
    have t1 := RepR.top R1 P1 h1
    unfold gFld at h2
    split at h2
    · split at h2
      · rename_i n fs z
        obtain ⟨y, h3, h4⟩ := bind1 h2
        cases h4
        obtain ⟨a, C, d, vs, rfl, c1, c2, c3, c4⟩ := t1.exn R1.bh
        have c1 : ClAt X.K n C := hK ▸ c1
        obtain ⟨F, k⟩ := T.fld _ _ z C c1
        obtain ⟨u, l1, l2⟩ := c4.look h3
        exact ⟨a, C, d, vs, u, rfl, c2, c3, F, k, l1, q u B1 H1 (Grow.refl R1.bh) l2⟩
      · cases h2
    · cases h2

/-! ### raise -/
def sRaise (n : Str) (ks : List Str) (ns : Nat) (fs : List (Env → Res RV)) : Env → Res Fl := fun e => (eDs fs e).bind fun ds e1 => if ds.length + ns = ks.length then .exc ⟨n, (ks.zip (ds ++ List.replicate ns .non)).reverse⟩ e1 else .no
/-- a class without an own __init__, made with a text -/
def OwnR (K : PySem.W.Frag) (mg : Str → Option Value) (n : Str) : Prop := ∃ C, mg n = some (.ref C) ∧ ClAt K n C ∧ PySem.W.excIn K C PySem.HandSPX.veTail "ValueError.__new__" = true ∧ PySem.W.keepIn K (.ref C) = true ∧ PySem.W.subIn K (.ref C) (.type "BaseException") = some true ∧ PySem.W.typeIn K (.ref C) = some (.type "type")
def sRaiseT (n : Str) : Env → Res Fl := fun e => .exc ⟨n, []⟩ e
theorem ds_raiseT {X : Cx} {W : WX} {x m : Str} {j : Nat} {p p2 pos pos' : Pos} (hc : X.calm = true) (tk : Takes X W) (hg : Gl X x) (o : OwnR X.K X.mg x) (hdb : (x == ("__debug__" : Str)) = false := by decide) : DS X W (.Raise (some (.Call (.Name x p) [.Constant (.str m) j p2] [] pos)) none pos') (sRaiseT x) := by
  obtain ⟨C, gC, cC, q, kC, eC, tC⟩ := o
  refine PS.weak (ps_raise hc tk (pmk_own PySem.F.excBase_ValueError q gC kC (raises_own eC tC) hg hdb)) fun D σ H ⟨G, B, e, hK, R, q⟩ => ?_
  exact q (.ref C) none σ H B R (Same.refl B) ⟨C, [], rfl, hK.symm ▸ cC, rfl, .nil⟩
/-- what an own __init__ that keeps its arguments promises -/
def spI (K : PySem.W.Frag) (C : Addr) (ks : List Str) : Sp := fun vs H Q E => ∃ (a : Addr) (ws : List V), vs = .ref a :: ws ∧ ws.length = ks.length ∧ H a = some (exo a C none) ∧ OexC K C ∧ (∀ f ∈ ks, PySem.W.findIn K (.ref C) f = some none) ∧ ∀ dx, H dx = none → dx ≠ a → Q .non (upd (upd H dx (exd dx (ks.zip ws).reverse)) a (exo a C (some dx)))
/-- a class whose __init__ is so; n of its last arguments may lack, and are None then -/
def OwnI (P : Program) (w : World) (K : PySem.W.Frag) (mg : Str → Option Value) (base : Heap) (x : Str) (ks : List Str) (n : Nat) : Prop :=
  ∃ (C fI : Addr) (fd : FuncData) (us : List Value), mg x = some (.ref C) ∧ ClAt K x C ∧ OexC K C ∧ (∀ f ∈ ks, PySem.W.findIn K (.ref C) f = some none) ∧ PySem.W.findIn K (.ref C) "__init__" = some (some (.ref fI)) ∧ PySem.W.typeIn K (.ref fI) = some (.type "function") ∧
    FnOk P w K mg base (L2.CX P w) 1 fI fd ("self" :: ks) (spI K C ks) ∧ Vals (List.replicate n V.non) us ∧ Binds K fd ("self" :: ks) us
section
variable {X : Cx} {p pos : Pos}
/-- C(), as pmk_oex for no arguments -/
theorem pmk_oex0 {CX : CXT} {x : Str} {C fI : Addr} {k : Nat} {fd : FuncData} {ps : List Str} {sp : Sp} {ds : List Value} {dvs : List V} (T : OexC X.K C) (iC : PySem.W.findIn X.K (.ref C) "__init__" = some (some (.ref fI))) (tI : PySem.W.typeIn X.K (.ref fI) = some (.type "function"))
    (F1 : FnOk X.prog X.w X.K X.mg X.base CX k fI fd ps sp) (hr : Room (k + 1) X.A) (hb : Binds X.K fd ps ds) (hd : Vals dvs ds) (hx : Passes CX X (fun _ _ _ => False)) (hg : Gl X x) (hm : X.mg x = some (.ref C)) (hdb : (x == ("__debug__" : Str)) = false := by decide) :
    PMk X (.Call (.Name x p) [] [] pos) (tMkO C sp dvs tNil) := by
  intro pins s σ H Q I ⟨_, hin⟩
  obtain ⟨nm, q, N, bs, bm, sn, sub, ab, col, dd, k0, k1, k2, k3, k5, hC, hbm⟩ := T.cls
  refine wpAny_Call_Name_kw (ld_glob I hg hm (PySem.W.callWith_K0 I.kIn T.kC ?_) hdb)
  show wpAny _ _ (call (.ref C) []) _ _ _
  obtain ⟨hp, g, dr, tk, os⟩ := s
  have big : hp.objs.size ≤ hp.objs.size + 1 := Nat.le_add_right _ 1
  have spot := I.hok.fresh big
  have want := hin (hp.objs.size + 1) spot
  have keeps : ∀ b o, hp.get? b = some o → ((hp.push (PySem.W.kdv_tup [])).push (PySem.HandSPX.excO C hp.objs.size)).get? b = some o := fun b o e => Heap.get?_push_of_some _ (Heap.get?_push_of_some _ e)
  have here : ((hp.push (PySem.W.kdv_tup [])).push (PySem.HandSPX.excO C hp.objs.size)).get? (hp.objs.size + 1) = some (PySem.HandSPX.excO C hp.objs.size) := by heap_get
  have I2 := I.laid (t' := tk) (a := hp.objs.size + 1) (o := exo (hp.objs.size + 1) C none) keeps big (exo_ok here)
  have vals : Vals (V.ref (hp.objs.size + 1) :: ([] ++ dvs)) (Value.ref (hp.objs.size + 1) :: ([] ++ ds)) := .cons rfl hd
  have len : ([Value.ref (hp.objs.size + 1)] ++ ds).length = ps.length := by
    have e := vals.length
    rw [F1.len _ _ _ _ want] at e
    exact e.symm
  have zero : ([] : List Value).length ≤ sizeLine := Nat.zero_le _
  refine wpAny_call (PySem.HandSPX.call_own F.excBase_ValueError (fun Y => PySem.HandSPX.refsVE_contains Y bm hbm) (I.kIn _ _ hC) (PySem.W.looks_findIn I.kIn iC) (fun self => PySem.W.bind_fn I.kIn self tI) zero
    (codeAny_mono (F1.run _ X.stack _ _ ⟨[Value.ref (hp.objs.size + 1)], []⟩ _ _ _ (fun _ _ _ => False) (hr.make C [] []) (I2.env0.make C [] []) (hb _ [Value.ref (hp.objs.size + 1)] I2.kIn len) vals want) fun r s' hq' => ?_))
  match r, hq' with
  | .error er, hq' => exact hx pins σ _ _ er s' I2 hq'
  | .ok (.ret u), hq' =>
    obtain ⟨v, H2, os2, bare2, un2, hok2, rv, ev, d, fs, ea, ed, hd1, q2⟩ := hq'
    subst ev
    obtain ⟨h2, g2, d2, t2, os'⟩ := s'
    exact ⟨rv, mk_end (raises_own T.exC T.tyC) I big keeps un2 hok2 os2 bare2 ea ed hd1 q2⟩
  | .ok .next, hq' => exact hq'.elim
  | .ok .brk, hq' => exact hq'.elim
  | .ok .cont, hq' => exact hq'.elim
end
theorem RepF.zip {K : PySem.W.Frag} {B : Hp} : ∀ {ks : List Str} {vs : List V} {ds : List D}, RepA K B vs ds → RepF K B (ks.zip vs) (ks.zip ds)
  | [], _, _, _ => .nil
  | _ :: _, _, _, .nil => .nil
  | _ :: _, _, _, .cons h t => .cons h (RepF.zip t)
theorem RepF.app {K : PySem.W.Frag} {B : Hp} : ∀ {v w : List (Str × V)} {d e : List (Str × D)}, RepF K B v d → RepF K B w e → RepF K B (v ++ w) (d ++ e)
  | _, _, _, _, .nil, s => s
  | _, _, _, _, .cons h t, s => .cons h (RepF.app t s)
theorem RepF.rev {K : PySem.W.Frag} {B : Hp} : ∀ {v : List (Str × V)} {d : List (Str × D)}, RepF K B v d → RepF K B v.reverse d.reverse
  | _, _, .nil => .nil
  | _, _, .cons h t => by
    rw [List.reverse_cons, List.reverse_cons]
    exact (RepF.rev t).app (.cons h .nil)
theorem RepA.nons {K : PySem.W.Frag} {B : Hp} : ∀ n, RepA K B (List.replicate n V.non) (List.replicate n D.non)
  | 0 => .nil
  | n + 1 => .cons .non (RepA.nons n)
/-- what the maker of the exception wants, from what the data tells -/
theorem raise_want {K : PySem.W.Frag} {W : WX} {G : Gm} {B H : Hp} {σ : L2.St} {e : Env} {C : Addr} {x : Str} {ks : List Str} {n : Nat} {vs : List V} {ds : List D} (hK : G.K = K) (R : Rel G B H σ e) (cC : ClAt K x C) (T : OexC K C) (nof : ∀ f ∈ ks, PySem.W.findIn K (.ref C) f = some none) (hl : ds.length + n = ks.length) (small : ks.length ≤ 900)
    (P : RepA G.K B vs ds) (q : ∀ cls d σ' H' B', Rel G B' H' σ' e → Same B B' → RepX G.K B' ⟨x, (ks.zip (ds ++ List.replicate n .non)).reverse⟩ cls d → W cls d σ' H') :
    vs.length ≤ 1000 ∧ ∀ a, H a = none → spI K C ks (.ref a :: (vs ++ List.replicate n V.non)) (upd H a (exo a C none))
      (fun v H2 => v = .non ∧ ∃ (d : Addr) (fs : List (Str × V)), H2 a = some (exo a C (some d)) ∧ H2 d = some (exd d fs) ∧ H d = none ∧ W (.ref C) (some d) σ (upd (del H2 a) d (.xd fs))) (fun _ _ _ => False) := by
  have lv := P.len
  refine ⟨by omega, fun a na => ⟨a, _, rfl, by simp; omega, upd_same, T, nof, fun dx ndx ne => ⟨rfl, dx, (ks.zip (vs ++ List.replicate n V.non)).reverse, upd_same, ?_, ?_, ?_⟩⟩⟩
  · rw [upd_ne ne, upd_same]
  · rw [upd_ne ne] at ndx; exact ndx
  · have ndx : H dx = none := by rw [upd_ne ne] at ndx; exact ndx
    have eH : upd (del (upd (upd (upd H a (exo a C none)) dx (exd dx (ks.zip (vs ++ List.replicate n V.non)).reverse)) a (exo a C (some dx))) a) dx (.xd (ks.zip (vs ++ List.replicate n V.non)).reverse) = upd H dx (.xd (ks.zip (vs ++ List.replicate n V.non)).reverse) := by
      funext b
      by_cases h1 : b = dx
      · rw [h1, upd_same, upd_same]
      · rw [upd_ne h1, upd_ne h1]
        by_cases h2 : b = a
        · rw [h2, del_same, na]
        · rw [del_ne h2, upd_ne h2, upd_ne h1, upd_ne h2]
    rw [eH]
    have g := Grow.new (o := .xd (ks.zip (vs ++ List.replicate n V.non)).reverse) R.bh ndx
    exact q (.ref C) (some dx) σ _ _ (R.grow g) g.eb ⟨C, _, rfl, hK.symm ▸ cC, upd_same, (RepF.zip ((P.mono g.eb).app (RepA.nons n))).rev⟩
theorem ds_raise {X : Cx} {W : WX} {x : Str} {ks : List Str} {n : Nat} {a : Expr} {es : List Expr} {fs : List (Env → Res RV)} {p pos pos' : Pos} (hc : X.calm = true) (tk : Takes X W) (hg : Gl X x) (o : OwnI X.prog X.w X.K X.mg X.base x ks n) (hr : Room 2 X.A) (small : ks.length ≤ 900) (h : DD X W (a :: es) (eDs fs)) (hdb : (x == ("__debug__" : Str)) = false := by decide)
    (he : starEach (a :: es) X.env = (false, eval a X.env) :: starEach es X.env := by rfl) (hpl : (backTo pos (starEach es X.env)).any (·.1) = false := by rfl) : DS X W (.Raise (some (.Call (.Name x p) (a :: es) [] pos)) none pos') (sRaise x ks n fs) := by
  obtain ⟨C, fI, fd, us, hm, cC, T, nof, iC, tI, F1, hv, hb⟩ := o
  refine PS.weak (ps_raise hc tk (pmk_oex T iC tI F1 hr hb hv passL hg hm h hdb he hpl)) fun D σ H ⟨G, B, e, hK, R, q⟩ => ?_
  refine ⟨G, B, e, hK, R, postS.of R q fun ds e1 vs H1 B1 R1 S1 P1 q => ?_⟩
  split at q
  case isFalse => exact q.elim
  rename_i hl
  exact raise_want hK R1 cC T nof hl small P1 q
theorem ds_raise0 {X : Cx} {W : WX} {x : Str} {ks : List Str} {n : Nat} {p pos pos' : Pos} (hc : X.calm = true) (tk : Takes X W) (hg : Gl X x) (o : OwnI X.prog X.w X.K X.mg X.base x ks n) (hr : Room 2 X.A) (small : ks.length ≤ 900) (hdb : (x == ("__debug__" : Str)) = false := by decide) : DS X W (.Raise (some (.Call (.Name x p) [] [] pos)) none pos') (sRaise x ks n []) := by
  obtain ⟨C, fI, fd, us, hm, cC, T, nof, iC, tI, F1, hv, hb⟩ := o
  refine PS.weak (ps_raise hc tk (pmk_oex0 T iC tI F1 hr hb hv passL hg hm hdb)) fun D σ H ⟨G, B, e, hK, R, q⟩ => ?_
  have q : postS W G B D (if 0 + n = ks.length then .exc ⟨x, (ks.zip ([] ++ List.replicate n .non)).reverse⟩ e else .no) := q
  split at q
  case isFalse => exact q.elim
  rename_i hl
  exact raise_want (ds := []) (vs := []) hK R cC T nof hl small .nil q
end DL

namespace DL
open PySem L2 PySem.Spec PyProof.Rows
/-! An __init__ that keeps its one, two arguments. -/
section
variable {P : Program} {w : World} {K : PySem.W.Frag} {mg : Str → Option Value} {base : Heap} {f C : Addr} {qual : Str} {st : Stmt} {dV kV doc pm cdv ct oc : Value} {an od : Option Addr} {osl : Array (Option Value)}
theorem init1_ok {y : Str} {p1 p2 p3 p4 : Pos} (lk : K.lookup f = some ⟨oc, od, .func (PySem.W.fnOf "__init__" qual (defArgs st) (defBody st) (defScope st) dV kV doc pm an cdv ct), osl⟩) (hcd : PySem.W.codeIn K cdv qual = true) (S : FnScope ["self", y] ["self", y] (defScope st))
    (h0 : (defScope st).names.lookup ("self" : Str) = some NameKind.local) (h1 : (defScope st).names.lookup y = some NameKind.local) (hy : (y == ("__debug__" : Str)) = false) (hy2 : (y == ("__classdict__" : Str)) = false)
    (hb : defBody st = [.Assign [.Attribute (.Name "self" p1) y p2] (.Name y p3) p4]) : FnOk P w K mg base (L2.CX P w) 1 f (PySem.W.fnOf "__init__" qual (defArgs st) (defBody st) (defScope st) dV kV doc pm an cdv ct) ["self", y] (spI K C [y]) := by
  refine fn_of (k := 0) lk hcd S (fun vs H Q E h => ?_) fun A outer s H vs Q E hr hsp => ?_
  · obtain ⟨a, ws, e1, e2, _⟩ := h
    rw [e1, List.length_cons, e2]
    rfl
  · obtain ⟨a, ws, e1, e2, ha, T, nof, q⟩ := hsp
    match ws, e2 with
    | [v], _ =>
      subst e1
      rw [hb]
      refine ⟨_, pss_one (ps_ost (pv 0 (by rfl) (.inl h0)) (pv 1 (by rfl) (.inl h1) hy hy2)), ?_⟩
      exact ⟨v, rfl, .ref a, rfl, a, C, rfl, T, nof y (List.mem_singleton.mpr rfl), .inl ⟨ha, fun dx h1 h2 => q dx h1 h2⟩⟩
theorem init2_ok {y z : Str} {p1 p2 p3 p4 r1 r2 r3 r4 : Pos} (lk : K.lookup f = some ⟨oc, od, .func (PySem.W.fnOf "__init__" qual (defArgs st) (defBody st) (defScope st) dV kV doc pm an cdv ct), osl⟩) (hcd : PySem.W.codeIn K cdv qual = true) (S : FnScope ["self", y, z] ["self", y, z] (defScope st))
    (h0 : (defScope st).names.lookup ("self" : Str) = some NameKind.local) (h1 : (defScope st).names.lookup y = some NameKind.local) (h2 : (defScope st).names.lookup z = some NameKind.local) (hy : (y == ("__debug__" : Str)) = false) (hy2 : (y == ("__classdict__" : Str)) = false) (hz : (z == ("__debug__" : Str)) = false) (hz2 : (z == ("__classdict__" : Str)) = false)
    (hb : defBody st = [.Assign [.Attribute (.Name "self" p1) y p2] (.Name y p3) p4, .Assign [.Attribute (.Name "self" r1) z r2] (.Name z r3) r4]) :
    FnOk P w K mg base (L2.CX P w) 1 f (PySem.W.fnOf "__init__" qual (defArgs st) (defBody st) (defScope st) dV kV doc pm an cdv ct) ["self", y, z] (spI K C [y, z]) := by
  refine fn_of (k := 0) lk hcd S (fun vs H Q E h => ?_) fun A outer s H vs Q E hr hsp => ?_
  · obtain ⟨a, ws, e1, e2, _⟩ := h
    rw [e1, List.length_cons, e2]
    rfl
  · obtain ⟨a, ws, e1, e2, ha, T, nof, q⟩ := hsp
    match ws, e2 with
    | [v, u], _ =>
      subst e1
      rw [hb]
      refine ⟨_, pss_cons (ps_ost (pv 0 (by rfl) (.inl h0)) (pv 1 (by rfl) (.inl h1) hy hy2)) (pss_one (ps_ost (pv 0 (by rfl) (.inl h0)) (pv 2 (by rfl) (.inl h2) hz hz2))), ?_⟩
      refine ⟨v, rfl, .ref a, rfl, a, C, rfl, T, nof y (by simp), .inl ⟨ha, fun dx n1 n2 => ?_⟩⟩
      refine ⟨u, rfl, .ref a, rfl, a, C, rfl, T, nof z (by simp), .inr ⟨dx, [(y, v)], upd_same, by rw [upd_ne n2, upd_same], by simp, ?_⟩⟩
      have e : upd (upd (upd H dx (exd dx [(y, v)])) a (exo a C (some dx))) dx (exd dx [(z, u), (y, v)]) = upd (upd H dx (exd dx ([y, z].zip [v, u]).reverse)) a (exo a C (some dx)) := by
        funext b
        by_cases h1 : b = dx
        · rw [h1, upd_same, upd_ne n2, upd_same]; rfl
        · rw [upd_ne h1]
          by_cases h2 : b = a
          · rw [h2, upd_same, upd_same]
          · rw [upd_ne h2, upd_ne h1, upd_ne h2, upd_ne h1]
      show Q .non _
      rw [e]
      exact q dx n1 n2
end
end DL

namespace DL
open PySem L2 PySem.Spec PyProof.Rows
/-! ### a list that stands in the written part, and another one -/
def rCatL (K : PySem.W.Frag) : R2 := fun x y H Q => ∃ a b xs ys, x = .ref a ∧ y = .ref b ∧ SqL K H a xs ∧ SqL K H b ys ∧ xs.length + ys.length ≤ sizeLine ∧ ∀ p, H p = none → Q (.ref p) (upd H p (.lst (xs ++ ys)))
theorem op_catL {X : Cx} : OpR X (binaryOp .Add) (rCatL X.K) := by
  intro pins st σ H x y v u Q I rx ry h
  obtain ⟨a, b, xs, ys, rfl, rfl, ha, hb, hz, q⟩ := h
  cases rx
  cases ry
  obtain ⟨us, r1, p1, _⟩ := I.list ha
  obtain ⟨ws, r2, p2, _⟩ := I.list hb
  obtain ⟨⟨c1, d1, dat1, s1⟩, e1, k1, n1, q1⟩ := id p1.isList
  obtain ⟨⟨c2, d2, dat2, s2⟩, e2, k2, n2, q2⟩ := id p2.isList
  simp only at k1 q1 k2 q2
  subst k1 q1 k2 q2
  have l1 := r1.length
  have l2 := r2.length
  refine concat_meets ⟨_, e1, rfl⟩ ⟨_, e2, rfl⟩ noFill_list_add seq_list_add PySem.F.slot_list_add PySem.F.entry_list_add (PySem.F.args_list_add_2 _ _) (list_addW a b us.toArray ws.toArray n1 n2 d1 d2 s1 s2 ?_) ⟨e1, e2, ?_⟩
  · rw [List.size_toArray, List.size_toArray]; omega
  · rw [List.append_toArray]
    exact ⟨.ref _, _, I.lnew (t' := st.toks) (r1.append r2) (by rw [List.length_append]; omega), rfl, q _ I.fresh⟩
def gAdd2 : D → D → Option RV
  | .fl xs, .lst ys => if xs.length + ys.length ≤ sizeLine then some (.m (.l (xs ++ ys))) else none
  | _, _ => none
theorem p_add2 {X : Cx} : Pure2 X.K (rCatL X.K) gAdd2 := fun B H v w d c out Q s h1 h2 hg q => by
  unfold gAdd2 at hg
  split at hg
  · split at hg
    · cases hg
      rename_i z
      obtain ⟨a, vs, rfl, g1, r1⟩ := h1.fl s
      obtain ⟨b, ws, rfl, g2, r2⟩ := h2.lst s
      exact ⟨a, b, vs, ws, rfl, rfl, g1, SqL.of g2, by rw [r1.len, r2.len]; exact z, q_l s q (r1.app r2)⟩
    · cases hg
  · cases hg
/-! ### the greater, the lesser of two -/
def gMax2 : List D → Option RV
  | [.int i, .int j] => sv (.int (if j > i then j else i))
  | _ => none
def gMin2 : List D → Option RV
  | [.int i, .int j] => sv (.int (if j < i then j else i))
  | _ => none
section
variable {X : Cx}
theorem p_max2 : PureN X.K (fun xs H Q => ∃ i j, xs = [.int i, .int j] ∧ Q (.int (if j > i then j else i)) H) gMax2 := fun B H vs ds out Q s h hg q => by
  unfold gMax2 at hg
  split at hg
  · cases hg
    match vs, h with
    | [v, w], .cons h1 (.cons h2 .nil) => exact ⟨_, _, by rw [h1.int, h2.int], q_v s q (.int _)⟩
  · cases hg
theorem p_min2 : PureN X.K (fun xs H Q => ∃ i j, xs = [.int i, .int j] ∧ Q (.int (if j < i then j else i)) H) gMin2 := fun B H vs ds out Q s h hg q => by
  unfold gMin2 at hg
  split at hg
  · cases hg
    match vs, h with
    | [v, w], .cons h1 (.cons h2 .nil) => exact ⟨_, _, by rw [h1.int, h2.int], q_v s q (.int _)⟩
  · cases hg
end
/-! ### tables -/
def AllP {α : Type} (P : α → Prop) : List α → Prop
  | [] => True
  | a :: l => P a ∧ AllP P l
theorem AllP.get {α : Type} {P : α → Prop} {a : α} : ∀ {l : List α}, AllP P l → a ∈ l → P a
  | _ :: _, h, m => by
    rcases List.mem_cons.mp m with rfl | m
    · exact h.1
    · exact AllP.get h.2 m
theorem look_mem {α β : Type} [BEq α] [LawfulBEq α] {a : α} {b : β} : ∀ {l : List (α × β)}, l.lookup a = some b → (a, b) ∈ l
  | (k, v) :: l, h => by
    rw [List.lookup_cons] at h
    cases z : a == k with
    | true =>
      rw [z] at h
      cases h
      rw [eq_of_beq z]
      exact List.mem_cons_self
    | false =>
      rw [z] at h
      exact List.mem_cons_of_mem _ (look_mem h)
def tabOf (s : List ((Str × Str) × Bool)) (b : List ((Str × String) × Bool)) (f : List ((Str × Str) × Bool)) : ExTab := ⟨fun n m => s.lookup (n, m), fun n m => b.lookup (n, m), fun n m => (f.lookup (n, m)).isSome⟩
theorem tab_ok {K : PySem.W.Frag} {mg : Str → Option Value} {s : List ((Str × Str) × Bool)} {b : List ((Str × String) × Bool)} {f : List ((Str × Str) × Bool)}
    (hs : AllP (fun p => ∀ C C', ClAt K p.1.1 C → ClAt K p.1.2 C' → ExF K C ∧ PySem.W.kitOne K (.ref C) (.ref C') = some p.2) s) (hb : AllP (fun p => ∀ C, ClAt K p.1.1 C → ExF K C ∧ PySem.W.kitOne K (.ref C) (.type p.1.2) = some p.2) b)
    (hf : AllP (fun p => ∀ C, ClAt K p.1.1 C → ExF K C ∧ PySem.W.findIn K (.ref C) p.1.2 = some none) f) : TabF K mg (tabOf s b f) where
  sub := fun n m c h => hs.get (look_mem (show s.lookup (n, m) = some c from h))
  blt := fun n m c h => hb.get (look_mem (show b.lookup (n, m) = some c from h))
  fld := fun n m h => by
    have h : (f.lookup (n, m)).isSome = true := h
    obtain ⟨c, hc⟩ := Option.isSome_iff_exists.mp h
    exact hf.get (look_mem hc)
/-- what a clause's class needs -/
theorem cls_ok {K : PySem.W.Frag} {mg : Str → Option Value} {s : List ((Str × Str) × Bool)} {b : List ((Str × String) × Bool)} {f : List ((Str × Str) × Bool)} {c : Str} {C' : Addr} (hm : mg c = some (.ref C'))
    (h : AllP (fun p => p.1.2 = c → ∀ C, ClAt K p.1.1 C → PySem.W.exmOne K (.ref C) (.ref C') = some p.2) s) : ClsF K mg (tabOf s b f).sub c :=
  ⟨C', hm, fun n v e => h.get (look_mem (show s.lookup (n, c) = some v from e)) rfl⟩
end DL

namespace DL
open PySem L2 PySem.Spec PyProof.Rows
/-! ### str(x) -/
def rStrX (K : PySem.W.Frag) : List V → Hp → VK → Prop := fun xs H Q => ∃ x, xs = [x] ∧ ((∃ a, x = .str a ∧ Q (.str a) H) ∨ (∃ i, x = .int i ∧ i.natAbs.log2 < 1920 ∧ Q (.str (toString i)) H) ∨ (x = .non ∧ Q (.str "None") H) ∨ (∃ b, x = .bl b ∧ Q (.str (if b = true then "True" else "False")) H) ∨
  (∃ a, x = .ref a ∧ H a = some (.dK []) ∧ Q (.str (PyData.dict []).shown) H) ∨ ∃ (a : Addr) (p : PyData), x = .ref a ∧ Dp K H x p ∧ p.showable = true ∧ p.hasDict = false ∧ p.depth ≤ 64 ∧ p.shown.length ≤ sizeLine ∧ Q (.str p.shown) H)
theorem call_strX {X : Cx} (hg : X.A.guards = some []) (hu : X.A.units + 100 < cLine) : CallR X (.type "str") (rStrX X.K) := by
  intro pins st σ H xs us Q I rv h
  obtain ⟨x, rfl, h⟩ := h
  obtain ⟨u, rfl, ru⟩ := rv.one
  rcases h with ⟨a, rfl, q⟩ | ⟨i, rfl, hi, q⟩ | ⟨rfl, q⟩ | ⟨b, rfl, q⟩ | ⟨a, rfl, ha, q⟩ | ⟨a, p, rfl, hd, hs, hn, hp, hz, q⟩
  · obtain ⟨t, rfl⟩ := ru
    exact PySem.P.str_of_str ⟨.str a, H, I, ⟨_, rfl⟩, q⟩
  · obtain ⟨t, rfl⟩ := ru
    exact PySem.P.str_of_int hi ⟨.str _, H, I.tok _, ⟨_, rfl⟩, q⟩
  · cases ru
    exact PySem.P.str_of_none ⟨.str _, H, I.tok _, ⟨_, rfl⟩, q⟩
  · cases ru
    refine PySem.P.str_of_bool ⟨.str _, H, I.tok _, ⟨_, rfl⟩, ?_⟩
    cases b <;> exact q
  · cases ru
    obtain ⟨_, sys, vs, kv, o, es, ep, e1, e2, e3, e4, e5, _⟩ := I.hok a _ ha
    have hv : vs = [] := by cases kv; rfl
    subst hv
    have he : es.toList = [] := by
      have := e5
      cases hl : es.toList with
      | nil => rfl
      | cons x xs => rw [hl] at this; cases this
    have rds : Reads st.heap (.ref a) (.dict []) [a] := by
      have r := Reads.dict (kvs := []) (as := []) (bs := []) e1 e2.1 e3 (by rw [he]; exact .nil) (by rw [he]; exact .nil)
      exact r
    refine PySem.str_of_reads rds (by decide +kernel) (fun _ hm => ?_) hg ?_ (fun _ _ z => z) (fun h' u tk hk => ⟨.str _, H, I.kept hk, ⟨_, rfl⟩, q⟩) (by decide +kernel)
    · rw [List.mem_singleton] at hm
      rw [← hm] at sys
      simp at sys
    · have : (PyData.dict []).depth ≤ 64 := by decide +kernel
      omega
  · cases ru
    obtain ⟨as, rds⟩ := Dp.reads I p _ _ hd rfl
    exact PySem.str_of_reads rds hs (PyData.noDict_hsm hn) hg (by omega) (fun _ _ z => z) (fun h' u tk hk => ⟨.str _, H, I.kept hk, ⟨_, rfl⟩, q⟩) hz
def shownD (d : D) : Option RV := d.py.bind fun p => if p.showable = true ∧ p.hasDict = false ∧ p.depth ≤ 64 ∧ p.shown.length ≤ sizeLine then sv (.str p.shown) else none
def gStrX : List D → Option RV
  | [.str a] => sv (.str a)
  | [.int i] => if i.natAbs.log2 < 1920 then sv (.str (toString i)) else none
  | [.non] => sv (.str "None")
  | [.bl b] => sv (.str (if b = true then "True" else "False"))
  | [.dct []] => sv (.str (PyData.dict []).shown)
  | [.lst xs] => shownD (.lst xs)
  | [.tup xs] => shownD (.tup xs)
  | _ => none
theorem RepT.isRef {K : PySem.W.Frag} {B H : Hp} {v : V} {d : D} (s : Same B H) (h : RepT K B H v d) (hd : (∃ xs, d = .lst xs) ∨ ∃ xs, d = .tup xs) : ∃ a, v = .ref a := by
  rcases hd with ⟨xs, rfl⟩ | ⟨xs, rfl⟩
  · obtain ⟨a, ws, e, _⟩ := h.lst s
    exact ⟨a, e⟩
  · obtain ⟨a, ws, e, _⟩ := h.tup s
    exact ⟨a, e⟩
theorem p_strX {X : Cx} : PureN X.K (rStrX X.K) gStrX := fun B H vs ds out Q s h hg q => by
  have cont : ∀ d v, ((∃ xs, d = .lst xs) ∨ ∃ xs, d = .tup xs) → RepT X.K B H v d → shownD d = some out → rStrX X.K [v] H Q := fun d v hd h1 hg => by
    obtain ⟨a, rfl⟩ := h1.isRef s hd
    unfold shownD at hg
    obtain ⟨p, e1, e2⟩ := bind1 hg
    split at e2
    · rename_i z
      cases e2
      exact ⟨_, rfl, .inr (.inr (.inr (.inr (.inr ⟨a, p, rfl, Rep.dp (h1.rep s) e1, z.1, z.2.1, z.2.2.1, z.2.2.2, q_v s q (.str _)⟩))))⟩
    · cases e2
  unfold gStrX at hg
  split at hg
  · cases hg
    cases h with | cons h1 h2 => cases h2; exact ⟨_, rfl, .inl ⟨_, h1.str, q_v s q (.str _)⟩⟩
  · split at hg
    · cases hg
      rename_i z
      cases h with | cons h1 h2 => cases h2; exact ⟨_, rfl, .inr (.inl ⟨_, h1.int, z, q_v s q (.str _)⟩)⟩
    · cases hg
  · cases hg
    cases h with
    | cons h1 h2 =>
      cases h2
      refine ⟨_, rfl, .inr (.inr (.inl ⟨?_, q_v s q (.str _)⟩))⟩
      have := RepT.isNon (X := X) h1
      simpa [DL.isNon] using this
  · cases hg
    cases h with
    | cons h1 h2 =>
      cases h2
      rcases h1 with h1 | ⟨_, _, m, _, _, _, y⟩
      · cases h1
        exact ⟨_, rfl, .inr (.inr (.inr (.inl ⟨_, rfl, q_v s q (.str _)⟩)))⟩
      · cases m <;> cases y
  · cases hg
    cases h with
    | cons h1 h2 =>
      cases h2
      obtain ⟨a, vs, rfl, g1, r1⟩ := h1.dct s
      cases r1
      exact ⟨_, rfl, .inr (.inr (.inr (.inr (.inl ⟨a, rfl, g1, q_v s q (.str _)⟩))))⟩
  · cases h with | cons h1 h2 => cases h2; exact cont _ _ (.inl ⟨_, rfl⟩) h1 hg
  · cases h with | cons h1 h2 => cases h2; exact cont _ _ (.inr ⟨_, rfl⟩) h1 hg
  · cases hg
/-! ### a tuple, a text so many times -/
def repS (x : Str) (n : Nat) : Str := ⟨(List.replicate n x.cps).foldl (· ++ ·) #[]⟩
theorem repS_list (x : Str) (n : Nat) : (repS x n).cps.toList = (List.replicate n x.cps.toList).flatten := by
  have go : ∀ (n : Nat) (acc : Array Nat), ((List.replicate n x.cps).foldl (· ++ ·) acc).toList = acc.toList ++ (List.replicate n x.cps.toList).flatten := by
    intro n
    induction n with
    | zero => intro acc; simp
    | succ n ih => intro acc; rw [List.replicate_succ, List.foldl_cons, ih, List.replicate_succ, List.flatten_cons, Array.toList_append, List.append_assoc]
  have := go n #[]
  simpa [repS] using this
theorem repS_len (x : Str) (n : Nat) : (repS x n).length = n * x.length := by
  show (repS x n).cps.size = n * x.cps.size
  rw [← Array.length_toList, repS_list, List.length_flatten, List.map_replicate, List.sum_replicate_nat, Array.length_toList]
def rRepS : R2 := fun x y H Q => ∃ (a : Str) (k : Int), x = .str a ∧ y = .int k ∧ 2 ≤ k ∧ k ≤ 6000 ∧ 1 ≤ a.length ∧ a.length ≤ 1000 ∧ Q (.str (repS a k.toNat)) H
theorem op_repS {X : Cx} : OpR X (binaryOp .Mult) rRepS := by
  intro pins st σ H x y v u Q I rx ry h
  obtain ⟨a, k, rfl, rfl, k1, k2, a1, a2, q⟩ := h
  obtain ⟨t, rfl⟩ := rx
  obtain ⟨t', rfl⟩ := ry
  have hn : ¬ k < 1 := by omega
  have hb : (k == 1 || a.length == 0) = false := by
    rw [Bool.or_eq_false_iff]
    exact ⟨beq_eq_false_iff_ne.mpr (by omega), beq_eq_false_iff_ne.mpr (by omega)⟩
  have hz : a.length * k.toNat ≤ 6000000 := Nat.le_trans (Nat.mul_le_mul a2 (show k.toNat ≤ 6000 by omega)) (by decide)
  refine PySem.P.mul_str (by rw [decide_eq_false (by omega), decide_eq_false (by omega)]; rfl) (fun _ _ => ?_) (fun _ _ => decide_eq_false (by rw [sizeLine_eq]; omega)) ?_
  · have d1 : (2 ^ 63 - 1 : Int) / 6000 ≤ (2 ^ 63 - 1) / k := by
      exact Int.le_ediv_of_mul_le (by omega) (by
        have : (2 ^ 63 - 1 : Int) / 6000 * k ≤ (2 ^ 63 - 1 : Int) / 6000 * 6000 := Int.mul_le_mul_of_nonneg_left k2 (by decide)
        exact Int.le_trans this (by decide))
    have d2 : (1000 : Int) ≤ (2 ^ 63 - 1 : Int) / 6000 := by decide
    omega
  · rw [if_neg hn, hb]
    rw [if_neg Bool.false_ne_true]
    refine ⟨?_, .str _, H, I.tok _, ⟨_, rfl⟩, q⟩
    show (repS a k.toNat).length ≤ sizeLine
    rw [repS_len, Nat.mul_comm, sizeLine_eq]
    omega
def gMulX : D → D → Option RV
  | .tup xs, .int k => if xs ≠ [] ∧ 2 ≤ k ∧ k ≤ 1000 ∧ xs.length ≤ 1000 then sv (.tup (List.replicate k.toNat xs).flatten) else none
  | .str a, .int k => if 2 ≤ k ∧ k ≤ 6000 ∧ 1 ≤ a.length ∧ a.length ≤ 1000 then sv (.str (repS a k.toNat)) else none
  | d, c => gMul d c
theorem p_mulX {X : Cx} : Pure2 X.K (fun x y H Q => (rI CMul (fun i j => .int (i * j)) x y H Q ∨ rRep x y H Q) ∨ (rRepT X.K x y H Q ∨ rRepS x y H Q)) gMulX := fun B H v w d c out Q s h1 h2 hg q => by
  unfold gMulX at hg
  split at hg
  · split at hg
    · cases hg
      rename_i z
      obtain ⟨a, vs, rfl, g1, r1⟩ := h1.tup s
      have l := r1.len
      refine .inr (.inl ⟨a, _, vs, rfl, h2.int, g1, fun e => z.1 ?_, z.2.1, z.2.2.1, by omega, q_t s q ?_⟩)
      · subst e
        cases r1
        rfl
      · generalize Int.toNat _ = n
        induction n with
        | zero => exact .nil
        | succ n ih => rw [List.replicate_succ, List.replicate_succ, List.flatten_cons, List.flatten_cons]; exact r1.app ih
    · cases hg
  · split at hg
    · cases hg
      rename_i z
      exact .inr (.inr ⟨_, _, h1.str, h2.int, z.1, z.2.1, z.2.2.1, z.2.2.2, q_v s q (.str _)⟩)
    · cases hg
  · exact .inl (p_mul B H v w _ _ out Q s h1 h2 hg q)
theorem o_mulX {X : Cx} : OpR X (binaryOp .Mult) (fun x y H Q => (rI CMul (fun i j => .int (i * j)) x y H Q ∨ rRep x y H Q) ∨ (rRepT X.K x y H Q ∨ rRepS x y H Q)) := o_mul.or (op_repT.or op_repS)
/-! ### {} -/
def eDct0 : Env → Res RV := fun e => .ok (.m (.d [])) e
theorem de_disp0 {X : Cx} {W : WX} {pos : Pos} : DE X W (.Dict [] [] pos) eDct0 := PE.weak pe_dnewK fun σ H Q ⟨G, B, e, hK, R, q⟩ => fun p hp => by
  have R' := R.rebase
  have g := Grow.own (o := .dK []) R'.bh hp
  exact q (.ref p) _ _ (R'.grow g) (OutOk.rep (B' := B) (x := .m (.d [])) R' ⟨p, .dK [], rfl, hp, upd_same, ⟨[], rfl, .nil⟩, R'.bh.free hp⟩)
/-! ### a place of an own list stored -/
theorem RepA.set {K : PySem.W.Frag} {B : Hp} : ∀ {vs : List V} {ds : List D} {v : V} {d : D} (j : Nat), RepA K B vs ds → Rep K B v d → RepA K B (vs.set j v) (ds.set j d)
  | _, _, _, _, _, .nil, _ => by simp; exact .nil
  | _, _, _, _, 0, .cons h t, r => .cons r t
  | _, _, _, _, j + 1, .cons h t, r => .cons h (RepA.set j t r)
def sPutL (i : Nat) (fk fv : Env → Res RV) : Env → Res Fl := fun e => (fv e).bind fun x e1 => match toD e1 x with
  | none => .no
  | some (d, e2) => match e2[i]? with
    | some (.o _ _ (.l _)) => (fk e2).bind fun y e3 => match peek e3 y with
      | some (.int k) => match e3[i]? with
        | some (.o p false (.l xs)) => match ixN xs.length k with
          | some j => .ok .nx (e3.set i (.o p false (.l (xs.set j d))))
          | none => .no
        | _ => .no
      | _ => .no
    | _ => .no
set_option pp.explicit false in
theorem ds_putL {X : Cx} {W : WX} {o i value : Expr} {n : Nat} {pos pos' : Pos} {fk fv : Env → Res RV} (ho : PE X o (tVar n)) (hi : DE X W i fk) (hv : DE X W value fv) (hs : swapsWithSole [Expr.Subscript o i pos'] value pos.line X.env = pure false := by rfl) (hw : swappedStores [Expr.Subscript o i pos'] value X.env = pure none := by rfl)
    (h1 : (assignEach [Expr.Subscript o i pos'] X.env).map (·.2) = [PySem.assign (Expr.Subscript o i pos') X.env] := by rfl)
    (hsub : PG X (.Subscript o i pos') (L2.gSub (tVar n) (rdE W X.K fk) rSetL)) : DS X W (.Assign [.Subscript o i pos'] value pos) (sPutL n fk fv) :=
  PS.weak (ps_asg hv hsub hs hw h1) fun D σ H ⟨G, B, e, hK, R, q⟩ => by
    refine ⟨G, B, e, hK, R, postS.of R q fun x e1 v H1 B1 R1 S1 P1 q => ?_⟩
    split at q
    · exact q.elim
    rename_i d e2 ht
    obtain ⟨B2, R2, s2, rp⟩ := Rel.frz R1 (RepR.back R P1) ht
    have q := postS.up s2 q
    split at q
    case h_2 => exact q.elim
    rename_i io lk xs0 he
    obtain ⟨a, o, f1, f2, f3, f4, f5, f6⟩ := R2.sl n _ he
    refine ⟨.ref a, f1, G, B2, e2, hK, R2, postS.of R2 q fun y e3 w H3 B3 R3 S3 P3 q => ?_⟩
    split at q
    case h_2 => exact q.elim
    rename_i k hk
    split at q
    case h_2 => exact q.elim
    rename_i p xs he3
    split at q
    case h_2 => exact q.elim
    rename_i j hj
    have t1 := RepR.top R3 (RepR.back R2 P3) hk
    obtain ⟨a', o', g1, g2, ⟨vs, rfl, r1⟩, g4, g5, g6⟩ := R3.sl n _ he3
    rw [f1] at g1
    cases g1
    refine ⟨a, vs, k, j, rfl, t1.int, g2, by rw [r1.len]; exact hj, ?_⟩
    exact q _ _ B3 (turn_list R3 he3 f1 g4 ⟨_, rfl, r1.set j (Rep.mono S3.b0 rp)⟩) (Same.refl B3)
end DL

namespace DL
open PySem L2 PySem.Spec PyProof.Rows

/-! ### repr of what holds dicts, no lists -/
def keyPy : Key → PyData
  | .inl i => .int i
  | .inr x => .str x
mutual
inductive Dx (K : PySem.W.Frag) (H : Hp) : V → PyData → Prop
  | non : Dx K H .non .none
  | bl (b : Bool) : Dx K H (.bl b) (.bool b)
  | int (i : Int) : Dx K H (.int i) (.int i)
  | str (x : Str) : Dx K H (.str x) (.str x)
  | tup {a : Addr} {vs : List V} {ps : List PyData} : SqT K H a vs → DxA K H vs ps → Dx K H (.ref a) (.tuple ps)
  | dct {a : Addr} {vs : List (Key × V)} {ps : List (PyData × PyData)} : H a = some (.dK vs) → DxK K H vs ps → Dx K H (.ref a) (.dict ps)
inductive DxA (K : PySem.W.Frag) (H : Hp) : List V → List PyData → Prop
  | nil : DxA K H [] []
  | cons {v : V} {vs : List V} {p : PyData} {ps : List PyData} : Dx K H v p → DxA K H vs ps → DxA K H (v :: vs) (p :: ps)
inductive DxK (K : PySem.W.Frag) (H : Hp) : List (Key × V) → List (PyData × PyData) → Prop
  | nil : DxK K H [] []
  | cons {k : Key} {v : V} {vs : List (Key × V)} {p : PyData} {ps : List (PyData × PyData)} : Dx K H v p → DxK K H vs ps → DxK K H ((k, v) :: vs) ((keyPy k, p) :: ps)
end
section
variable {X : Cx} {pins : List (Addr × Obj)} {σ : L2.St} {H : Hp} {st : Shared}
theorem key_reads {k : Key} {u : Value} (h : keyIs k u = true) : Reads st.heap u (keyPy k) [] := by
  rcases keyIs_shape h with ⟨i, t, e1, e2⟩ | ⟨i, t, e1, e2⟩
  · subst e1 e2
    exact .int i t
  · subst e1 e2
    exact .str i t
mutual
theorem Dx.reads (I : Inv X pins σ H st) : ∀ {v : V} {p : PyData}, Dx X.K H v p → ∀ u, RelV v u → ∃ as, Reads st.heap u p as ∧ sysModules ∉ as
  | _, _, .non, u, r => by cases r; exact ⟨_, .none, by simp⟩
  | _, _, .bl b, u, r => by cases r; exact ⟨_, .bool b, by simp⟩
  | _, _, .int i, u, r => by obtain ⟨t, rfl⟩ := r; exact ⟨_, .int i t, by simp⟩
  | _, _, .str x, u, r => by obtain ⟨t, rfl⟩ := r; exact ⟨_, .str x t, by simp⟩
  | _, _, .tup h a, u, r => by
    cases r
    obtain ⟨its, rv, ⟨o, ho, hc, n, hd⟩, _⟩ := I.tuple h
    obtain ⟨as, q, z⟩ := DxA.reads I a its rv
    exact ⟨as, Reads.tuple ho hc hd q, z⟩
  | _, _, .dct (a := a) h k, u, r => by
    cases r
    obtain ⟨_, sys, ws, kv, o, es, ep, e1, e2, e3, _, e5, _⟩ := dk_of I.hok h
    obtain ⟨as, bs, q1, q2, z1, z2⟩ := DxK.reads I k ws es.toList kv e5
    refine ⟨a :: as ++ bs, Reads.dict e1 e2.1 e3 q1 q2, ?_⟩
    have na : sysModules ≠ a := fun e => by rw [← e] at sys; simp at sys
    simp only [List.cons_append, List.mem_cons, List.mem_append, not_or]
    exact ⟨na, z1, z2⟩
theorem DxA.reads (I : Inv X pins σ H st) : ∀ {vs : List V} {ps : List PyData}, DxA X.K H vs ps → ∀ us, Vals vs us → ∃ as, ReadsAll st.heap us ps as ∧ sysModules ∉ as
  | _, _, .nil, us, r => by cases r; exact ⟨_, .nil, by simp⟩
  | _, _, .cons h t, us, r => by
    cases r with
    | cons r1 r2 =>
      obtain ⟨as, q1, z1⟩ := Dx.reads I h _ r1
      obtain ⟨bs, q2, z2⟩ := DxA.reads I t _ r2
      exact ⟨_, .cons q1 q2, by rw [List.mem_append, not_or]; exact ⟨z1, z2⟩⟩
theorem DxK.reads (I : Inv X pins σ H st) : ∀ {vs : List (Key × V)} {ps : List (PyData × PyData)}, DxK X.K H vs ps → ∀ (ws : List (Key × Value)) (es : List DictEntry), KV vs ws → Pairs (mixKind X.prog X.w) es ws →
    ∃ as bs, ReadsAll st.heap (es.map (·.key)) (ps.map (·.1)) as ∧ ReadsAll st.heap (es.map (·.val)) (ps.map (·.2)) bs ∧ sysModules ∉ as ∧ sysModules ∉ bs
  | _, _, .nil, ws, es, kv, pr => by
    cases kv
    cases pr
    exact ⟨_, _, .nil, .nil, by simp, by simp⟩
  | _, _, .cons (k := k) h t, ws, es, kv, pr => by
    cases kv with
    | cons k1 k2 =>
      cases pr with
      | cons p1 p2 p3 =>
        obtain ⟨as, bs, q1, q2, z1, z2⟩ := DxK.reads I t _ _ k2 p3
        obtain ⟨cs, q3, z3⟩ := Dx.reads I h _ k1.2
        obtain ⟨e1, _⟩ := k1
        simp only at e1
        subst e1
        refine ⟨[] ++ as, cs ++ bs, .cons (key_reads p1) q1, .cons (by have q4 := q3; rw [← p2] at q4; exact q4) q2, by simpa using z1, by rw [List.mem_append, not_or]; exact ⟨z3, z2⟩⟩
end
end
def rReprX (K : PySem.W.Frag) : List V → Hp → VK → Prop := fun xs H Q => ∃ x p, xs = [x] ∧ (Dp K H x p ∧ p.hasDict = false ∨ Dx K H x p) ∧ p.showable = true ∧ p.depth ≤ 64 ∧ p.shown.length ≤ sizeLine ∧ Q (.str p.shown) H
theorem call_reprX {X : Cx} (hg : X.A.guards = some []) (hu : X.A.units + 100 < cLine) : CallR X (.builtin "repr") (rReprX X.K) := by
  intro pins st σ H xs us Q I rv h
  obtain ⟨x, p, rfl, hd, hs, hp, hz, q⟩ := h
  rcases hd with ⟨hd, hn⟩ | hd
  · exact call_reprD hg hu pins st σ H [x] us Q I rv ⟨x, p, rfl, hd, hs, hn, hp, hz, q⟩
  obtain ⟨u, rfl, ru⟩ := rv.one
  obtain ⟨as, rds, ns⟩ := Dx.reads I hd u ru
  have here : ∀ {tk : Nat} {t : Tok}, EP X pins σ Q (.str p.shown t) { st with toks := tk } := fun {tk t} => ⟨.str p.shown, H, I.tok _, ⟨_, rfl⟩, q⟩
  cases hd with
  | non => cases ru; exact PySem.P.repr_of_none here
  | bl b => cases ru; exact PySem.P.repr_of_bool here
  | int i =>
    obtain ⟨t, rfl⟩ := ru
    exact PySem.P.repr_of_int (of_decide_eq_true hs) here
  | str z =>
    obtain ⟨t, rfl⟩ := ru
    exact PySem.P.repr_of_str here hz
  | tup h1 h2 =>
    cases ru
    exact PySem.repr_of_reads' rds hs (fun _ => ns) hg (by omega) (fun _ _ z => z) (fun h' u tk hk => ⟨.str _, H, I.kept hk, ⟨_, rfl⟩, q⟩) hz
  | dct h1 h2 =>
    cases ru
    exact PySem.repr_of_reads' rds hs (fun _ => ns) hg (by omega) (fun _ _ z => z) (fun h' u tk hk => ⟨.str _, H, I.kept hk, ⟨_, rfl⟩, q⟩) hz
mutual
def D.px : D → Option PyData
  | .non => some .none
  | .bl b => some (.bool b)
  | .int i => some (.int i)
  | .str x => some (.str x)
  | .tup xs => (D.pxA xs).map .tuple
  | .dct kvs => (D.pxK kvs).map .dict
  | _ => none
def D.pxA : List D → Option (List PyData)
  | [] => some []
  | d :: ds => (D.px d).bind fun p => (D.pxA ds).bind fun ps => some (p :: ps)
def D.pxK : List (Key × D) → Option (List (PyData × PyData))
  | [] => some []
  | (k, d) :: ds => (D.px d).bind fun p => (D.pxK ds).bind fun ps => some ((keyPy k, p) :: ps)
end
mutual
theorem Rep.dx {K : PySem.W.Frag} {H : Hp} : ∀ {v : V} {d : D} {p : PyData}, Rep K H v d → d.px = some p → Dx K H v p
  | _, _, _, .non, h => by cases h; exact .non
  | _, _, _, .bl b, h => by cases h; exact .bl b
  | _, _, _, .int i, h => by cases h; exact .int i
  | _, _, _, .str x, h => by cases h; exact .str x
  | _, .tup xs, _, .tup h r, hp => by
    unfold D.px at hp
    cases ha : D.pxA xs with
    | none => rw [ha] at hp; cases hp
    | some ps => rw [ha] at hp; cases hp; exact .tup h (RepA.dx r ha)
  | _, .dct xs, _, .dct h r, hp => by
    unfold D.px at hp
    cases ha : D.pxK xs with
    | none => rw [ha] at hp; cases hp
    | some ps => rw [ha] at hp; cases hp; exact .dct h (RepK.dx r ha)
  | _, _, _, .lst _ _, h => by cases h
  | _, _, _, .fl _ _, h => by cases h
  | _, _, _, .obj _ _ _, h => by cases h
  | _, _, _, .ty _, h => by cases h
  | _, _, _, .cls _, h => by cases h
  | _, _, _, .exn _ _ _ _, h => by cases h
theorem RepA.dx {K : PySem.W.Frag} {H : Hp} : ∀ {v : List V} {d : List D} {p : List PyData}, RepA K H v d → D.pxA d = some p → DxA K H v p
  | _, _, _, .nil, h => by cases h; exact .nil
  | _, _, _, .cons h t, hp => by
    unfold D.pxA at hp
    obtain ⟨p, h1, h2⟩ := bind1 hp
    obtain ⟨ps, h3, h4⟩ := bind1 h2
    cases h4
    exact .cons (Rep.dx h h1) (RepA.dx t h3)
theorem RepK.dx {K : PySem.W.Frag} {H : Hp} : ∀ {v : List (Key × V)} {d : List (Key × D)} {p : List (PyData × PyData)}, RepK K H v d → D.pxK d = some p → DxK K H v p
  | _, _, _, .nil, h => by cases h; exact .nil
  | _, _, _, .cons h t, hp => by
    unfold D.pxK at hp
    obtain ⟨p, h1, h2⟩ := bind1 hp
    obtain ⟨ps, h3, h4⟩ := bind1 h2
    cases h4
    exact .cons (Rep.dx h h1) (RepK.dx t h3)
end
def showP (p : PyData) : Option RV := if p.showable = true ∧ p.depth ≤ 64 ∧ p.shown.length ≤ sizeLine then sv (.str p.shown) else none
def gReprX : List D → Option RV
  | [d] => match d.py with
    | some p => if p.hasDict = false then showP p else none
    | none => d.px.bind showP
  | _ => none
theorem p_reprX {X : Cx} : PureN X.K (rReprX X.K) gReprX := fun B H vs ds out Q s h hg q => by
  have one : ∀ {x : V} {p : PyData}, (Dp X.K H x p ∧ p.hasDict = false ∨ Dx X.K H x p) → showP p = some out → rReprX X.K [x] H Q := fun {x p} hd e => by
    unfold showP at e
    split at e
    · cases e
      rename_i z
      exact ⟨x, p, rfl, hd, z.1, z.2.1, z.2.2, q_v s q (.str _)⟩
    · cases e
  unfold gReprX at hg
  split at hg
  · cases h with
    | cons h1 h2 =>
      cases h2
      split at hg
      · rename_i p e
        split at hg
        · rename_i z
          exact one (.inl ⟨Rep.dp (h1.rep s) e, z⟩) hg
        · cases hg
      · obtain ⟨p, e1, e2⟩ := bind1 hg
        exact one (.inr (Rep.dx (h1.rep s) e1)) e2
  · cases hg

/-! ### sorted texts -/
def leS (a b : Str) : Bool := !decide (b.cps.toList < a.cps.toList)
def sortS (xs : List Str) : List Str := xs.mergeSort leS
theorem Str.ext_list {a b : Str} (h : a.cps.toList = b.cps.toList) : a = b := by
  cases a; cases b
  simp only at h
  rw [Array.toList_inj] at h
  rw [h]
theorem leS_anti {a b : Str} (h1 : leS a b = true) (h2 : leS b a = true) : a = b := by
  unfold leS at h1 h2
  simp only [Bool.not_eq_true', decide_eq_false_iff_not] at h1 h2
  exact Str.ext_list (List.le_antisymm (List.not_lt.mp h1) (List.not_lt.mp h2))
theorem leS_trans (a b c : Str) (h1 : leS a b = true) (h2 : leS b c = true) : leS a c = true := by
  unfold leS at h1 h2 ⊢
  simp only [Bool.not_eq_true', decide_eq_false_iff_not] at h1 h2 ⊢
  exact List.not_lt.mpr (List.le_trans (List.not_lt.mp h1) (List.not_lt.mp h2))
theorem leS_total (a b : Str) : (leS a b || leS b a) = true := by
  unfold leS
  rw [Bool.or_eq_true]
  simp only [Bool.not_eq_true', decide_eq_false_iff_not]
  rcases List.le_total a.cps.toList b.cps.toList with h | h
  · exact .inl (List.not_lt.mpr h)
  · exact .inr (List.not_lt.mpr h)
theorem leS_of_ltCps {a b : Str} (h : ltCps b.cps.toList a.cps.toList = false) : leS a b = true := by
  rw [ltCps_eq] at h
  unfold leS
  rw [h] <;> rfl
theorem sortedS_pw : ∀ {l : List Str}, sortedS l = true → l.Pairwise fun a b => leS a b = true
  | [], _ => .nil
  | [x], _ => List.pairwise_singleton _ _
  | x :: y :: r, h => by
    have h : (!ltCps y.cps.toList x.cps.toList && risingS y r) = true := h
    rw [Bool.and_eq_true] at h
    have ih := sortedS_pw (l := y :: r) h.2
    have xy : leS x y = true := leS_of_ltCps (by simpa using h.1)
    refine List.pairwise_cons.mpr ⟨fun z hz => ?_, ih⟩
    rcases List.mem_cons.mp hz with e | e
    · rw [e]; exact xy
    · exact leS_trans _ _ _ xy ((List.pairwise_cons.mp ih).1 z e)
theorem sortS_unique {xs ys : List Str} (p : ys.Perm xs) (h : sortedS ys = true) : ys = sortS xs := by
  refine List.Perm.eq_of_pairwise (le := fun a b => leS a b = true) (fun a b _ _ h1 h2 => leS_anti h1 h2) (sortedS_pw h) ?_ (p.trans (List.mergeSort_perm xs leS).symm)
  exact List.pairwise_mergeSort leS_trans leS_total xs
def gSorted : List D → Option RV
  | [.lst xs] => (strsD xs).bind fun ys => if ys.length < 64 then some (.m (.l ((sortS ys).map D.str))) else none
  | _ => none
theorem p_sorted {X : Cx} : PureN X.K (rSortedS X.K) gSorted := fun B H vs ds out Q s h hg q => by
  unfold gSorted at hg
  split at hg
  · obtain ⟨ys, e1, e2⟩ := bind1 hg
    split at e2
    · rename_i z
      cases e2
      cases h with
      | cons h1 h2 =>
        cases h2
        obtain ⟨a, ws, rfl, g1, r1⟩ := h1.lst s
        refine ⟨a, ys, rfl, by rw [← strs_rep r1 e1]; exact SqL.of g1, z, fun zs p pm so hp => ?_⟩
        rw [sortS_unique pm so]
        exact q_l s q (rep_strs _) p hp
    · cases e2
  · cases hg

/-! ### t[::-1] -/
section
variable {M : Program} {w : World} {A : Around} {E : Value → Shared → Prop} {s : Shared}
theorem adj_rev (n : Nat) : Builtin.Slice.sliceAdjust none none (-1) (n : Int) = ((n : Int) - 1, -1) := rfl
theorem places_rev (n : Nat) : Builtin.Slice.slicePlaces ((n : Int) - 1) (-1) (-1) = n := by
  unfold Builtin.Slice.slicePlaces
  rw [if_neg (by decide)]
  by_cases h : (n : Int) - 1 > -1
  · rw [if_pos h]
    simp only [Int.neg_neg, Int.ediv_one]
    omega
  · rw [if_neg h]
    omega
theorem applied_rev {sl : Addr} {t : Tok} {n : Nat} {Q : Int × Int × Nat → Shared → Prop} (hs : s.heap.IsSliceOf sl .none .none (.int (-1) t)) (h : Q ((n : Int) - 1, -1, n) s) :
    wpAny (model M w) A (Builtin.Slice.sliceApplied (.ref sl) (pure (n : Int))) Q E s := by
  obtain ⟨os, hos, hcs, hds⟩ := id hs
  unfold Builtin.Slice.sliceApplied
  unfold Builtin.Slice.sliceFields
  refine wpAny_bind (wpAny_bind (wpAny_field hos hds (x := .none) rfl ?_))
  refine wpAny_bind (wpAny_field hos hds (x := .none) rfl ?_)
  refine wpAny_bind (wpAny_field hos hds (x := .int (-1) t) rfl ?_)
  refine wpAny_pure ?_
  refine wpAny_bind (slicePart_int ?_)
  show wpAny _ _ (if ((-1 : Int) == 0) = true then _ else _) _ _ s
  rw [if_neg (by decide)]
  refine wpAny_bind (slicePart_none ?_)
  refine wpAny_bind (slicePart_none ?_)
  refine wpAny_bind (wpAny_pure ?_)
  show wpAny _ _ (pure ((n : Int) - 1, (-1 : Int), Builtin.Slice.slicePlaces ((n : Int) - 1) (-1) (-1))) _ _ s
  rw [places_rev]
  exact wpAny_pure h
theorem fm_map {α β : Type} (f : α → Option β) (g : α → β) : ∀ l : List α, (∀ m ∈ l, f m = some (g m)) → l.filterMap f = l.map g
  | [], _ => rfl
  | a :: l, h => by
    rw [List.filterMap_cons, h a List.mem_cons_self, List.map_cons]
    dsimp only
    rw [fm_map f g l fun m hm => h m (List.mem_cons_of_mem _ hm)]
theorem pick_rev (xs : Array Value) : ((List.range xs.size).filterMap fun (m : Nat) => xs[((xs.size : Int) - 1 + (m : Int) * -1).toNat]?) = xs.toList.reverse := by
  apply List.ext_getElem?
  intro i
  have e : ∀ m ∈ List.range xs.size, xs[((xs.size : Int) - 1 + (m : Int) * -1).toNat]? = some (xs.toList.reverse.getD m .none) := fun m hm => by
    have hm := List.mem_range.mp hm
    have : ((xs.size : Int) - 1 + (m : Int) * -1).toNat = xs.size - 1 - m := by omega
    rw [this, List.getD_eq_getElem?_getD, List.getElem?_reverse (by simpa using hm), ← Array.getElem?_toList]
    rw [Array.length_toList]
    have l : xs.size - 1 - m < xs.toList.length := by rw [Array.length_toList]; omega
    rw [List.getElem?_eq_getElem l, Option.getD_some]
  rw [fm_map _ _ _ e]
  by_cases hi : i < xs.size
  · rw [List.getElem?_map, List.getElem?_range hi, Option.map_some, List.getD_eq_getElem?_getD]
    have l : i < xs.toList.reverse.length := by rw [List.length_reverse, Array.length_toList]; exact hi
    rw [List.getElem?_eq_getElem l, Option.getD_some]
  · rw [List.getElem?_eq_none_iff.mpr (by simp; omega), List.getElem?_eq_none_iff.mpr (by simp; omega)]
theorem get_rev {a sl : Addr} {t : Tok} {xs : Array Value} {Q : Value → Shared → Prop} (ht : IsTup s.heap a xs) (hs : s.heap.IsSliceOf sl .none .none (.int (-1) t))
    (h : Q (.ref s.heap.objs.size) { s with heap := s.heap.push { cls := .type "tuple", data := .seq xs.toList.reverse.toArray } }) (hz : xs.size ≤ sizeLine) : wpAny (model M w) A (getItem (.ref a) (.ref sl)) Q E s := by
  have ok : sizeOk (.seq xs.toList.reverse.toArray) := by
    show xs.toList.reverse.toArray.size ≤ sizeLine
    simpa using hz
  obtain ⟨os, hos, hcs, hds⟩ := id hs
  have ty : s.TypeIs (.ref sl) "slice" := ⟨os, hos, hcs⟩
  unfold getItem
  try with_reducible refine wpAny_holding ?_
  first
    | refine wpAny_bind (wpAny_pure ?_)
    | skip
  refine wpAny_bind (wpAny_sequenceKey ht.typeIs (by decide) ?_)
  refine wpAny_bind (wpAny_callSpecial?_slot (name := Str.ofString "__getitem__") ht.typeIs
    PyProof.Rows.slot_tuple_getitem (wpAny_call_entry PyProof.Rows.slot_tuple_getitem ht.typeIs
      entry_tuple_getitem ?_ (args_tuple_getitem _ _)))
  show wpAny _ _ (Builtin.Tuple.tupleItemsOf (.ref a) >>= _) _ _ s
  refine wpAny_bind (tupleItemsOf_ ht ?_)
  refine wpAny_bind (wpAny_typeOf ty ?_)
  rw [if_pos (by decide)]
  refine wpAny_bind (applied_rev (n := xs.size) hs ?_)
  show wpAny _ _ (if (((xs.size : Int) - 1) == 0 && (-1 : Int) == 1 && xs.size == xs.size) = true then _ else _) _ _ s
  rw [if_neg (by simp), pick_rev]
  first
    | exact wpAny_bind (m := Builtin.Tuple.tupleExact _) (wpAny_newObj_type (wpAny_pure ⟨_, rfl, wpAny_pure h⟩) ok)
    | exact wpAny_bind (m := Builtin.Tuple.tupleExact _)
        (wpAny_newObj_type (wpAny_bind (wpAny_pure (wpAny_pure ⟨_, rfl, wpAny_pure h⟩))) ok)
    | exact wpAny_bind (wpAny_bind (m := Builtin.Tuple.tupleExact _)
        (wpAny_newObj_type (wpAny_pure (wpAny_pure ⟨_, rfl, wpAny_pure h⟩)) ok))
    | exact wpAny_bind (wpAny_bind (m := Builtin.Tuple.tupleExact _)
        (wpAny_newObj_type (wpAny_pure ⟨_, rfl, wpAny_pure h⟩) ok))
end
section
variable {X : Cx} {W : WX}
def tRevT (K : PySem.W.Frag) (te : TE) : TE := fun σ H Q => te σ H fun x H1 => ∃ a xs, x = .ref a ∧ SqT K H1 a xs ∧ ∀ p, H1 p = none → Q (.ref p) (upd H1 p (.tup xs.reverse))
theorem pe_revT {e : Expr} {te : TE} {k : Nat} {p1 p2 p3 pos : Pos} (he : PE X e te) : PE X (.Subscript e (.Slice none none (some (.UnaryOp .USub (.Constant (.int 1) k p1) p2)) p3) pos) (tRevT X.K te) := by
  constructor
  intro pins s σ H Q I h
  refine Subscript_ (thn (he.run pins s σ H _ I h) ?_)
  rintro v s1 ⟨x, H1, I1, r1, a, xs, rfl, hx, q⟩
  cases r1
  have hst : PO X (some (.UnaryOp .USub (.Constant (.int 1) k p1) p2)) (tPart (tUn (rU fun i => .int (-i)) (tC (.int 1)))) := po_some (pe_un un_neg pe_int)
  refine wpAny_Slice (thn (po_none.run pins s1 σ H1 (fun o H2 => o = none ∧ H2 = H1) I1 ⟨rfl, rfl⟩) ?_)
  rintro vl s2 ⟨l, H2, I2, pl, rfl, rfl⟩
  refine thn (po_none.run pins s2 σ H2 (fun o H3 => o = none ∧ H3 = H2) I2 ⟨rfl, rfl⟩) ?_
  rintro vu s3 ⟨u, H3, I3, pu, rfl, rfl⟩
  refine thn (hst.run pins s3 σ H3 (fun o H4 => o = some (-1) ∧ H4 = H3) I3 ⟨1, rfl, -1, rfl, rfl, rfl⟩) ?_
  rintro vs s4 ⟨o, H4, I4, ps, rfl, rfl⟩
  have I5 : Inv X pins σ H4 { s4 with heap := s4.heap.push { cls := .type "slice", data := .fields #[vl, vu, vs] } } :=
    I4.kept (t' := s4.toks) fun b ob q => Heap.get?_push_of_some _ q
  obtain ⟨its, r, ht, hz⟩ := I5.tuple hx
  have hlen := r.length
  cases pl
  cases pu
  cases ps with
  | int i t =>
  show wpAny (model X.prog X.w) X.A (subscriptTail e (.Slice none none (some (.UnaryOp .USub (.Constant (.int 1) k p1) p2)) p3) (.ref a) (.ref s4.heap.objs.size)) (EP X pins σ Q) X.xe
    { s4 with heap := s4.heap.push { cls := .type "slice", data := .fields #[.none, .none, .int (-1) t] } }
  refine tail_any (ops := [.ref a, .ref s4.heap.objs.size]) ht.typeIs (PyProof.Rows.slot_tuple_getitem.lookup) ?_ (by with_unfolding_all rfl)
  refine get_rev ht (Heap.IsSliceOf.new _ .none .none (.int (-1) t)) ?_ (by rw [List.size_toArray]; omega)
  refine ⟨.ref _, _, I5.laid (t' := s4.toks) (o := .tup xs.reverse) (fun b ob q => Heap.get?_push_of_some _ q) (Nat.le_refl _) ?_, rfl, q _ (I5.hok.fresh (Nat.le_refl _))⟩
  exact ⟨by rw [List.length_reverse]; omega, _, r.reverse, IsTup.new _ _⟩
def eRevT (f : DL.Env → Res RV) : DL.Env → Res RV := fun e => (f e).bind fun x e1 => match peek e1 x with
  | some (.tup ds) => .ok (.v (.tup ds.reverse)) e1
  | _ => .no
theorem de_revT {a : Expr} {f : DL.Env → Res RV} {k : Nat} {p1 p2 p3 pos : Pos} (h : DE X W a f) : DE X W (.Subscript a (.Slice none none (some (.UnaryOp .USub (.Constant (.int 1) k p1) p2)) p3) pos) (eRevT f) := PE.weak (pe_revT h) fun σ H Q ⟨G, B, e, hK, R, q⟩ => by
  refine ⟨G, B, e, hK, R, post.bind q fun x e1 v H1 B1 R1 P1 q => ?_⟩
  split at q
  · rename_i ds hp
    obtain ⟨a, vs, rfl, ha, r⟩ := (RepR.top R1 P1 hp).tup R1.bh
    have ha : SqT X.K H1 a vs := by
      have h2 : SqT G.K H1 a vs := ha
      rw [hK] at h2
      exact h2
    refine ⟨a, vs, rfl, ha, fun p hp => ?_⟩
    have g := Grow.new (o := .tup vs.reverse) R1.bh hp
    exact q (.ref p) _ _ (R1.grow g) (OutOk.rep (H' := upd H1 p (.tup vs.reverse)) (x := .v (.tup ds.reverse)) R1 (.tup (SqT.of upd_same) (r.rev.mono g.eb)))
  · exact q.elim
end

/-! ### () * k -/
def rRep0 (K : PySem.W.Frag) : R2 := fun x y H Q => ∃ l k, x = .ref l ∧ y = .int k ∧ SqT K H l [] ∧ 2 ≤ k ∧ k ≤ 1000 ∧ Q (.ref l) H
theorem mul_empty (l : Addr) (n : Nat) (dd : Option Addr) (sl : Array (Option Value)) (x : Int) (u : Tok) (c0 : (decide (x < -(2 ^ 63)) || decide (x ≥ 2 ^ 63)) = false) :
    Meets (Builtin.«tuple.__mul__» ⟨[.ref l, .int x u], []⟩) (fun _ R s => s.heap.get? l = some { cls := .type "tuple", dict := dd, data := .seq #[] n, slots := sl } ∧ R (.ok (.ret (Value.ref l))) s) :=
  .of_wp fun prog w A R s h => by
    obtain ⟨hp, g, d, tk, os⟩ := s
    obtain ⟨hl, h⟩ := h
    have f1 := AutoSeq1.idx_int
    have ty : (Shared.mk hp g d tk os).TypeIs (.ref l) "tuple" := ⟨_, hl, rfl⟩
    wp_walk using wpAny_loadPart' hl
    repeat (first
      | (refine wpAny_ite_false (decide_eq_false (by rw [c0]; exact Bool.false_ne_true)) ?_; wp_walk using wpAny_loadPart' hl)
      | (refine wpAny_ite_true (by rfl) ?_; wp_walk using wpAny_loadPart' hl))
    first
      | exact ⟨_, rfl, h⟩
      | skip
theorem op_rep0 {X : Cx} : OpR X (binaryOp .Mult) (rRep0 X.K) := by
  intro pins s σ H x y v u Q I rx ry h
  obtain ⟨l, k, rfl, rfl, hT, k1, k2, q⟩ := h
  cases rx
  obtain ⟨t, rfl⟩ := ry
  obtain ⟨its, r, ⟨⟨cls, dd, data, sl⟩, ho, hc, n, hd⟩, hs⟩ := I.tuple hT
  simp only at hc hd
  subst hc hd
  cases r
  have c0 : (decide (k < -(2 ^ 63)) || decide (k ≥ 2 ^ 63)) = false := by
    rw [decide_eq_false (by omega), decide_eq_false (by omega)] <;> rfl
  exact wpAny_binaryOp_repeat_ref (T := "tuple") (U := "int") (by decide) ⟨_, ho, rfl⟩ (fun s' => typeIs_int s' k t) noFill_tuple_mul F.fills_int_mul F.slot_int_rmul repeat_tuple F.slot_int_index.lookup
    (call_meets F.slot_int_rmul (typeIs_int s k t) F.entry_int_rmul (F.args_int_rmul_2 _ _) (int_rmul_tuple k t l #[] n dd sl)
      ⟨ho, rfl, ⟨_, ho, rfl⟩, call_meets F.slot_tuple_mul ⟨_, ho, rfl⟩ F.entry_tuple_mul (F.args_tuple_mul_2 _ _) (mul_empty l n dd sl k t c0) ⟨ho, ⟨.ref l, H, I, rfl, q⟩⟩⟩)
def gMulY : D → D → Option RV
  | .tup [], .int k => if 2 ≤ k ∧ k ≤ 1000 then sv (.tup []) else none
  | d, c => gMulX d c
theorem p_mulY {X : Cx} : Pure2 X.K (fun x y H Q => ((rI CMul (fun i j => .int (i * j)) x y H Q ∨ rRep x y H Q) ∨ (rRepT X.K x y H Q ∨ rRepS x y H Q)) ∨ rRep0 X.K x y H Q) gMulY := fun B H v w d c out Q s h1 h2 hg q => by
  unfold gMulY at hg
  split at hg
  · split at hg
    · cases hg
      rename_i z
      have h1' := h1
      obtain ⟨a, vs, rfl, g1, r1⟩ := h1.tup s
      cases r1
      refine .inr ⟨a, _, rfl, h2.int, g1, z.1, z.2, q_v s q ?_⟩
      rcases h1' with h1 | ⟨_, _, m, _, _, _, y⟩
      · exact h1
      · cases m <;> cases y
    · cases hg
  · exact .inl (p_mulX B H v w _ _ out Q s h1 h2 hg q)
theorem o_mulY {X : Cx} : OpR X (binaryOp .Mult) (fun x y H Q => ((rI CMul (fun i j => .int (i * j)) x y H Q ∨ rRep x y H Q) ∨ (rRepT X.K x y H Q ∨ rRepS x y H Q)) ∨ rRep0 X.K x y H Q) := o_mulX.or op_rep0
end DL

namespace DL
open PySem L2
/-! ### running a def's function -/
theorem forL_inv {t : Tg} {b : Env → Res Fl} (Inv : Nat → Env → Prop) : ∀ {ds : List D} {k : Nat} {e : Env}, Inv k e → (∀ i d e, ds[i]? = some d → Inv (k + i) e → ∃ e1 e2, t d e = some e1 ∧ b e1 = .ok .nx e2 ∧ Inv (k + i + 1) e2) → ∃ e', forL t b ds e = .ok .nx e' ∧ Inv (k + ds.length) e'
  | [], k, e, h, _ => ⟨e, rfl, h⟩
  | d :: ds, k, e, h, hs => by
    obtain ⟨e1, e2, h1, h2, h3⟩ := hs 0 d e rfl h
    obtain ⟨e', h4, h5⟩ := forL_inv Inv (t := t) (b := b) (ds := ds) (k := k + 1) (e := e2) h3 fun i d e hd hi => by
      have := hs (i + 1) d e (by simpa using hd) (by rw [show k + (i + 1) = k + 1 + i by omega]; exact hi)
      rw [show k + (i + 1) + 1 = k + 1 + i + 1 by omega] at this
      exact this
    refine ⟨e', ?_, by rw [List.length_cons, show k + (ds.length + 1) = k + 1 + ds.length by omega]; exact h5⟩
    unfold forL
    rw [h1]
    dsimp only
    rw [h2]
    exact h4
theorem forL_run {t : Tg} {b : Env → Res Fl} {ds : List D} {e : Env} (Inv : Nat → Env → Prop) (h0 : Inv 0 e) (hs : ∀ i d e, ds[i]? = some d → Inv i e → ∃ e1 e2, t d e = some e1 ∧ b e1 = .ok .nx e2 ∧ Inv (i + 1) e2) : ∃ e', forL t b ds e = .ok .nx e' ∧ Inv ds.length e' := by
  obtain ⟨e', h1, h2⟩ := forL_inv Inv (k := 0) h0 fun i d e hd hi => by
    rw [Nat.zero_add] at hi ⊢
    exact hs i d e hd hi
  exact ⟨e', h1, by rw [Nat.zero_add] at h2; exact h2⟩
/-- a comprehension whose turns change nothing -/
theorem compL_map {t : Tg} {c : Env → Res Bool} {f : Env → Res RV} {vs : List Nat} (g : D → D) (e : Env) : ∀ (ds acc : List D), acc.length + ds.length ≤ sizeLine → (∀ d ∈ ds, ∃ e1, t d e = some e1 ∧ c e1 = .ok true e1 ∧ f e1 = .ok (.v (g d)) e1 ∧ wipeE e1 vs = e) → compL t c f vs ds acc e = .ok (acc ++ ds.map g) e
  | [], acc, _, _ => by simp [compL]
  | d :: ds, acc, hl, h => by
    obtain ⟨e1, h1, h2, h3, h4⟩ := h d List.mem_cons_self
    have hl' : acc.length < sizeLine := by rw [List.length_cons] at hl; omega
    unfold compL
    rw [h1]
    dsimp only
    rw [h2]
    dsimp only
    rw [h3]
    dsimp only [toD]
    rw [if_pos hl', h4, compL_map g e ds (acc ++ [g d]) (by rw [List.length_append, List.length_cons, List.length_nil]; rw [List.length_cons] at hl; omega) fun d hd => h d (List.mem_cons_of_mem _ hd)]
    simp
theorem keep_wipe (e : Env) (vs : List Nat) : keepE e (wipeE e vs) vs = e := by
  apply List.ext_getElem?
  intro j
  have k := keepE_get e (wipeE e vs) vs j
  have w := wipeE_get e vs j
  by_cases h : j ∈ vs
  · by_cases l : j < e.length
    · rw [k.2 h (by rw [wipeE_len]; exact l), List.getD_eq_getElem?_getD, List.getElem?_eq_getElem l]
      rfl
    · rw [List.getElem?_eq_none (by rw [keepE_len, wipeE_len]; omega), List.getElem?_eq_none (by omega)]
  · rw [k.1 h, w.1 h]
theorem eLc_map {t : Tg} {it : Env → Res (List D)} {c : Env → Res Bool} {f : Env → Res RV} {vs : List Nat} (g : D → D) {e e1 : Env} {ds : List D} (hi : it e = .ok ds e1) (hc : clean e1 vs = true) (hl : ds.length ≤ sizeLine)
    (h : ∀ d ∈ ds, ∃ e2, t d (wipeE e1 vs) = some e2 ∧ c e2 = .ok true e2 ∧ f e2 = .ok (.v (g d)) e2 ∧ wipeE e2 vs = wipeE e1 vs) : eLc vs t it c f e = .ok (.m (.l (ds.map g))) e1 := by
  unfold eLc
  rw [hi]
  show (if clean e1 vs = true then _ else _) = _
  rw [if_pos hc, compL_map g (wipeE e1 vs) ds [] (by simpa using hl) h]
  dsimp only
  rw [keep_wipe]
  rfl
theorem le_size {n : Nat} (h : n ≤ 64) : (n ≤ sizeLine) = True := eq_true (Nat.le_trans h (by decide))
theorem lt_size {n : Nat} (h : n ≤ 64) : (n < sizeLine) = True := eq_true (Nat.lt_of_le_of_lt h (by decide))
theorem lt1 (a b : Nat) : decide ([a] < [b]) = decide (a < b) := by
  rw [decide_eq_decide, List.cons_lt_cons_iff]
  simp
theorem sSeq_nx {f g : Env → Res Fl} {e e1 : Env} (h : f e = .ok .nx e1) : sSeq f g e = g e1 := by
  unfold sSeq
  rw [h]
  rfl
theorem sSeq_rt {f g : Env → Res Fl} {e e1 : Env} {x : RV} (h : f e = .ok (.rt x) e1) : sSeq f g e = .ok (.rt x) e1 := by
  unfold sSeq
  rw [h]
  rfl
theorem run_of {n : Nat} {io : Option Nat} {b : Env → Res Fl} {a : Env} {x : RV} {e : Env} (h : b (a ++ List.replicate (n - a.length) Slot.u) = .ok (.rt x) e) : runDef n io b a = fin io x e := by
  unfold runDef
  rw [h]
theorem run_of_nx {n : Nat} {io : Option Nat} {b : Env → Res Fl} {a : Env} {e : Env} (h : b (a ++ List.replicate (n - a.length) Slot.u) = .ok .nx e) : runDef n io b a = fin io (.v .non) e := by
  unfold runDef
  rw [h]
/-- a comprehension with a state -/
theorem compL_inv {t : Tg} {c : Env → Res Bool} {f : Env → Res RV} {vs : List Nat} (Inv : List D → Env → Prop) : ∀ (ds acc : List D) (e : Env), acc.length + ds.length ≤ sizeLine → Inv acc e → (∀ d ∈ ds, ∀ acc' e, acc'.length < acc.length + ds.length → Inv acc' e → ∃ e1 e2 y, t d e = some e1 ∧ c e1 = .ok true e1 ∧ f e1 = .ok (.v y) e2 ∧ Inv (acc' ++ [y]) (wipeE e2 vs)) →
    ∃ acc' e', compL t c f vs ds acc e = .ok acc' e' ∧ acc'.length = acc.length + ds.length ∧ Inv acc' e'
  | [], acc, e, _, h, _ => ⟨acc, e, rfl, rfl, h⟩
  | d :: ds, acc, e, hl, h, hs => by
    rw [List.length_cons] at hl hs
    obtain ⟨e1, e2, y, h1, h2, h3, h4⟩ := hs d List.mem_cons_self acc e (by omega) h
    have la : (acc ++ [y]).length = acc.length + 1 := by simp
    obtain ⟨acc', e', g1, g2, g3⟩ := compL_inv Inv (t := t) (c := c) (f := f) (vs := vs) ds (acc ++ [y]) (wipeE e2 vs) (by rw [la]; omega) h4 fun d hd acc' e hl hi => hs d (List.mem_cons_of_mem _ hd) acc' e (by rw [la] at hl; omega) hi
    refine ⟨acc', e', ?_, by rw [g2, la, List.length_cons]; omega, g3⟩
    unfold compL
    rw [h1]
    dsimp only
    rw [h2]
    dsimp only
    rw [h3]
    dsimp only [toD]
    rw [if_pos (by omega : acc.length < sizeLine)]
    exact g1
theorem strs_map : ∀ xs : List Str, strsD (xs.map D.str) = some xs
  | [] => rfl
  | x :: xs => by simp [strsD, strs_map xs]
theorem joinL_nil : ∀ ps : List (List Nat), TL.joinL [] ps = ps.flatten
  | [] => rfl
  | [p] => by simp [TL.joinL]
  | p :: q :: r => by
    show p ++ ([] ++ TL.joinL [] (q :: r)) = _
    rw [joinL_nil (q :: r)]
    simp
theorem atI_in {xs : List D} {r : Int} (h0 : 0 ≤ r) (h1 : r < xs.length) : ∃ d, L2.atI xs r = some d ∧ d ∈ xs := by
  have l : r.toNat < xs.length := by omega
  refine ⟨xs[r.toNat], ?_, List.getElem_mem l⟩
  unfold L2.atI L2.ixN
  rw [if_pos h0, if_pos h1]
  exact List.getElem?_eq_getElem l
theorem cut_to (xs : List D) (n : Nat) : cutD xs none (some (n : Int)) = xs.take n := by
  unfold cutD
  rw [HT.sIx_none, HT.sIx_nat]
  simp
theorem flat_strs (xs : List Str) : (xs.map D.str).all flatD = true := by
  rw [List.all_map]
  exact List.all_eq_true.mpr fun _ _ => rfl
theorem in_strs (x : Str) (xs : List Str) : inD (.str x) (.lst (xs.map D.str)) = some (decide (x ∈ xs)) := by
  unfold inD
  dsimp only
  rw [if_pos ⟨rfl, flat_strs xs⟩, List.any_map]
  congr 1
  induction xs with
  | nil => rfl
  | cons y ys ih =>
    rw [List.any_cons, ih]
    by_cases h : y = x
    · subst h
      simp [eqD]
    · have h2 : ¬ x = y := fun z => h z.symm
      simp [eqD, h, h2]
theorem cut_last {xs : List D} {n : Nat} (h : xs ≠ []) (hn : 0 < n) : cutD xs (some (-(n : Int))) none ≠ [] ∧ ∀ y ∈ cutD xs (some (-(n : Int))) none, y ∈ xs := by
  unfold cutD
  have e : HT.sIx xs.length 0 (some (-(n : Int))) = (-(n : Int) + (xs.length : Int)).toNat := by
    show (if (-(n : Int)) < 0 then ((-(n : Int)) + (xs.length : Int)).toNat else min (-(n : Int)).toNat xs.length) = _
    rw [if_pos (by omega)]
  rw [e, HT.sIx_none]
  have l : 0 < xs.length := List.length_pos_iff.mpr h
  refine ⟨?_, fun y hy => List.mem_of_mem_drop (List.mem_of_mem_take hy)⟩
  intro z
  have := congrArg List.length z
  rw [List.length_take, List.length_drop, List.length_nil] at this
  omega
theorem cut_len (xs : List D) (lo hi : Option Int) : (cutD xs lo hi).length ≤ xs.length := by
  unfold cutD
  rw [List.length_take, List.length_drop]
  omega
theorem cut_to_in {xs : List D} {n : Nat} (h : xs ≠ []) (hn : 0 < n) : cutD xs none (some (n : Int)) ≠ [] ∧ ∀ y ∈ cutD xs none (some (n : Int)), y ∈ xs := by
  rw [cut_to]
  refine ⟨?_, fun y hy => List.mem_of_mem_take hy⟩
  intro z
  have := congrArg List.length z
  have l : 0 < xs.length := List.length_pos_iff.mpr h
  rw [List.length_take, List.length_nil] at this
  omega
theorem bls_map {α : Type} (p : α → Bool) : ∀ xs : List α, blsD (xs.map fun x => .bl (p x)) = some (xs.map p)
  | [] => rfl
  | x :: xs => by simp [blsD, bls_map p xs]
def okS : Slot → Prop
  | .o _ _ _ => False
  | _ => True
theorem free_at {e : Env} {i : Nat} {s : Slot} (h : e[i]? = some s) (p : okS s) : free e i = true := by
  unfold free
  rw [h]
  cases s with
  | u => rfl
  | v d => rfl
  | o _ _ _ => exact p.elim
theorem k_NoneType_int : kitB "NoneType" "int" = some false := by decide +kernel
theorem k_NoneType_str : kitB "NoneType" "str" = some false := by decide +kernel
theorem k_NoneType_tuple : kitB "NoneType" "tuple" = some false := by decide +kernel
theorem k_NoneType_list : kitB "NoneType" "list" = some false := by decide +kernel
theorem k_NoneType_bool : kitB "NoneType" "bool" = some false := by decide +kernel
theorem k_bool_int : kitB "bool" "int" = some true := by decide +kernel
theorem k_bool_str : kitB "bool" "str" = some false := by decide +kernel
theorem k_bool_tuple : kitB "bool" "tuple" = some false := by decide +kernel
theorem k_bool_list : kitB "bool" "list" = some false := by decide +kernel
theorem k_bool_bool : kitB "bool" "bool" = some true := by decide +kernel
theorem k_int_int : kitB "int" "int" = some true := by decide +kernel
theorem k_int_str : kitB "int" "str" = some false := by decide +kernel
theorem k_int_tuple : kitB "int" "tuple" = some false := by decide +kernel
theorem k_int_list : kitB "int" "list" = some false := by decide +kernel
theorem k_int_bool : kitB "int" "bool" = some false := by decide +kernel
theorem k_str_int : kitB "str" "int" = some false := by decide +kernel
theorem k_str_str : kitB "str" "str" = some true := by decide +kernel
theorem k_str_tuple : kitB "str" "tuple" = some false := by decide +kernel
theorem k_str_list : kitB "str" "list" = some false := by decide +kernel
theorem k_str_bool : kitB "str" "bool" = some false := by decide +kernel
theorem k_list_int : kitB "list" "int" = some false := by decide +kernel
theorem k_list_str : kitB "list" "str" = some false := by decide +kernel
theorem k_list_tuple : kitB "list" "tuple" = some false := by decide +kernel
theorem k_list_list : kitB "list" "list" = some true := by decide +kernel
theorem k_list_bool : kitB "list" "bool" = some false := by decide +kernel
theorem k_tuple_int : kitB "tuple" "int" = some false := by decide +kernel
theorem k_tuple_str : kitB "tuple" "str" = some false := by decide +kernel
theorem k_tuple_tuple : kitB "tuple" "tuple" = some true := by decide +kernel
theorem k_tuple_list : kitB "tuple" "list" = some false := by decide +kernel
theorem k_tuple_bool : kitB "tuple" "bool" = some false := by decide +kernel
theorem k_dict_int : kitB "dict" "int" = some false := by decide +kernel
theorem k_dict_str : kitB "dict" "str" = some false := by decide +kernel
theorem k_dict_tuple : kitB "dict" "tuple" = some false := by decide +kernel
theorem k_dict_list : kitB "dict" "list" = some false := by decide +kernel
theorem k_dict_bool : kitB "dict" "bool" = some false := by decide +kernel
def okB : Slot → Bool
  | .o _ true _ => false
  | _ => true
theorem okB_u : okB .u = true := rfl
theorem okB_v (d : D) : okB (.v d) = true := rfl
theorem okB_o (a : Bool) (m : M) : okB (.o a false m) = true := rfl
theorem free_z (s : Slot) (e : Env) : free (s :: e) 0 = okB s := by
  unfold free okB
  cases s with
  | u => rfl
  | v _ => rfl
  | o _ lk _ => cases lk <;> rfl
theorem free_s (s : Slot) (e : Env) (n : Nat) : free (s :: e) (n + 1) = free e n := rfl
theorem bind_ok {α β : Type} {x : α} {e : Env} {f : α → Env → Res β} : (Res.ok x e).bind f = f x e := rfl
theorem bind_no {α β : Type} {f : α → Env → Res β} : (Res.no : Res α).bind f = .no := rfl
end DL

namespace K05
open PySem L2 PySem.Spec PyProof.Rows DL
def topS (i : Nat) : Stmt := PySem.Challenge.pw_ringdown_k05_trees_as_texts.main.body.getD i (.Pass ⟨0, 0, 0, 0⟩)
abbrev s__law_draw : Stmt := topS 38
theorem sc__law_draw : FnScope ["_law_cell", "_law_k"] ["_law_cell", "_law_k"] (defScope s__law_draw) := ⟨rfl, rfl, rfl, by decide +kernel, rfl, by decide +kernel, by decide +kernel⟩
abbrev s__law_text : Stmt := topS 42
theorem sc__law_text : FnScope ["_law_tree_here", "_law_rows", "_law_name", "_law_caller", "_law_talk"] ["_law_tree_here"] (defScope s__law_text) := ⟨rfl, rfl, rfl, by decide +kernel, rfl, by decide +kernel, by decide +kernel⟩
abbrev s_is_name : Stmt := topS 9
theorem sc_is_name : FnScope ["thing", "sign"] ["thing"] (defScope s_is_name) := ⟨rfl, rfl, rfl, by decide +kernel, rfl, by decide +kernel, by decide +kernel⟩
abbrev s_is_whole : Stmt := topS 7
theorem sc_is_whole : FnScope ["thing"] ["thing"] (defScope s_is_whole) := ⟨rfl, rfl, rfl, by decide +kernel, rfl, by decide +kernel, by decide +kernel⟩
abbrev s_is_among : Stmt := topS 8
theorem sc_is_among : FnScope ["thing", "least", "most"] ["thing", "least", "most"] (defScope s_is_among) := ⟨rfl, rfl, rfl, by decide +kernel, rfl, by decide +kernel, by decide +kernel⟩
abbrev s_is_talk : Stmt := topS 17
theorem sc_is_talk : FnScope ["thing"] ["thing"] (defScope s_is_talk) := ⟨rfl, rfl, rfl, by decide +kernel, rfl, by decide +kernel, by decide +kernel⟩
abbrev s_fits_behind : Stmt := topS 20
theorem sc_fits_behind : FnScope ["thing", "ahead", "name", "caller", "talk"] ["thing", "ahead"] (defScope s_fits_behind) := ⟨rfl, rfl, rfl, by decide +kernel, rfl, by decide +kernel, by decide +kernel⟩
abbrev s_first_misfit : Stmt := topS 21
theorem sc_first_misfit : FnScope ["people", "ahead", "number", "thing"] ["people"] (defScope s_first_misfit) := ⟨rfl, rfl, rfl, by decide +kernel, rfl, by decide +kernel, by decide +kernel⟩
abbrev s_is_wait : Stmt := topS 18
theorem sc_is_wait : FnScope ["thing"] ["thing"] (defScope s_is_wait) := ⟨rfl, rfl, rfl, by decide +kernel, rfl, by decide +kernel, by decide +kernel⟩
abbrev s_is_deep : Stmt := topS 19
theorem sc_is_deep : FnScope ["thing"] ["thing"] (defScope s_is_deep) := ⟨rfl, rfl, rfl, by decide +kernel, rfl, by decide +kernel, by decide +kernel⟩
abbrev s_tree_fault : Stmt := topS 22
theorem sc_tree_fault : FnScope ["thing", "wait", "deep", "people", "number"] ["thing"] (defScope s_tree_fault) := ⟨rfl, rfl, rfl, by decide +kernel, rfl, by decide +kernel, by decide +kernel⟩
abbrev s_need_tree : Stmt := topS 23
theorem sc_need_tree : FnScope ["tree", "fault", "part", "number"] ["tree"] (defScope s_need_tree) := ⟨rfl, rfl, rfl, by decide +kernel, rfl, by decide +kernel, by decide +kernel⟩
abbrev s_bell_or_name : Stmt := topS 26
theorem sc_bell_or_name : FnScope ["name"] ["name"] (defScope s_bell_or_name) := ⟨rfl, rfl, rfl, by decide +kernel, rfl, by decide +kernel, by decide +kernel⟩
abbrev s_tree_text : Stmt := topS 27
theorem sc_tree_text : FnScope ["tree", "wait", "deep", "people", "rows", "name", "caller", "talk"] ["tree"] (defScope s_tree_text) := ⟨rfl, rfl, rfl, by decide +kernel, rfl, by decide +kernel, by decide +kernel⟩
abbrev s_rows_of : Stmt := topS 34
theorem sc_rows_of : FnScope ["text"] ["text"] (defScope s_rows_of) := ⟨rfl, rfl, rfl, by decide +kernel, rfl, by decide +kernel, by decide +kernel⟩
abbrev s_words_of : Stmt := topS 12
theorem sc_words_of : FnScope ["row", "words"] ["row"] (defScope s_words_of) := ⟨rfl, rfl, rfl, by decide +kernel, rfl, by decide +kernel, by decide +kernel⟩
abbrev s_words_in : Stmt := topS 28
theorem sc_words_in : FnScope ["number", "row", "words"] ["number", "row"] (defScope s_words_in) := ⟨rfl, rfl, rfl, by decide +kernel, rfl, by decide +kernel, by decide +kernel⟩
abbrev s_need_words : Stmt := topS 29
theorem sc_need_words : FnScope ["number", "fits", "many", "place", "fit"] ["number", "fits", "many"] (defScope s_need_words) := ⟨rfl, rfl, rfl, by decide +kernel, rfl, by decide +kernel, by decide +kernel⟩
abbrev s_are_figures : Stmt := topS 10
theorem sc_are_figures : FnScope ["text", "sign"] ["text"] (defScope s_are_figures) := ⟨rfl, rfl, rfl, by decide +kernel, rfl, by decide +kernel, by decide +kernel⟩
abbrev s_number_of : Stmt := topS 11
theorem sc_number_of : FnScope ["word"] ["word"] (defScope s_number_of) := ⟨rfl, rfl, rfl, by decide +kernel, rfl, by decide +kernel, by decide +kernel⟩
abbrev s_head_word_fits : Stmt := topS 30
theorem sc_head_word_fits : FnScope ["place", "word", "deepest"] ["place", "word", "deepest"] (defScope s_head_word_fits) := ⟨rfl, rfl, rfl, by decide +kernel, rfl, by decide +kernel, by decide +kernel⟩
abbrev s_read_head : Stmt := topS 32
theorem sc_read_head : FnScope ["number", "row", "deepest", "words", "place", "word"] ["number", "row", "deepest"] (defScope s_read_head) := ⟨rfl, rfl, rfl, by decide +kernel, rfl, by decide +kernel, by decide +kernel⟩
abbrev s_person_word_fits : Stmt := topS 31
theorem sc_person_word_fits : FnScope ["place", "word", "ahead"] ["place", "word", "ahead"] (defScope s_person_word_fits) := ⟨rfl, rfl, rfl, by decide +kernel, rfl, by decide +kernel, by decide +kernel⟩
abbrev s_read_person : Stmt := topS 33
theorem sc_read_person : FnScope ["number", "row", "people", "words", "ahead", "name", "caller_word", "talk_word", "caller", "person", "place", "word"] ["number", "row", "people"] (defScope s_read_person) := ⟨rfl, rfl, rfl, by decide +kernel, rfl, by decide +kernel, by decide +kernel⟩
abbrev s_read_tree : Stmt := topS 35
theorem sc_read_tree : FnScope ["text", "rows", "wait", "deep", "people", "number", "row"] ["text"] (defScope s_read_tree) := ⟨rfl, rfl, rfl, by decide +kernel, rfl, by decide +kernel, by decide +kernel⟩
abbrev s__law_right : Stmt := topS 43
theorem sc__law_right : FnScope ["_law_tree_here", "_law_due"] ["_law_tree_here"] (defScope s__law_right) := ⟨rfl, rfl, rfl, by decide +kernel, rfl, by decide +kernel, by decide +kernel⟩
abbrev s__law_mixed : Stmt := topS 37
theorem sc__law_mixed : FnScope ["_law_cell", "_law_k", "_law_number"] ["_law_cell", "_law_k"] (defScope s__law_mixed) := ⟨rfl, rfl, rfl, by decide +kernel, rfl, by decide +kernel, by decide +kernel⟩
abbrev s__law_digit : Stmt := topS 39
theorem sc__law_digit : FnScope ["_law_state", "_law_many", "_law_j", "_law_found"] ["_law_state", "_law_many"] (defScope s__law_digit) := ⟨rfl, rfl, rfl, by decide +kernel, rfl, by decide +kernel, by decide +kernel⟩
abbrev s__law_word : Stmt := topS 40
theorem sc__law_word : FnScope ["_law_state", "_law_signs", "_law_some", "_law_j"] ["_law_state"] (defScope s__law_word) := ⟨rfl, rfl, rfl, by decide +kernel, rfl, by decide +kernel, by decide +kernel⟩
abbrev s__law_tree : Stmt := topS 41
theorem sc__law_tree : FnScope ["_law_state", "_law_most", "_law_way", "_law_many", "_law_head", "_law_names", "_law_people", "_law_j", "_law_word_here", "_law_talk", "_law_some", "_law_caller"] ["_law_state", "_law_most"] (defScope s__law_tree) := ⟨rfl, rfl, rfl, by decide +kernel, rfl, by decide +kernel, by decide +kernel⟩
abbrev s_law : Stmt := topS 44
theorem sc_law : FnScope ["_law_script", "_law_k", "_law_cell", "_law_state", "_law_names", "_law_chain", "_law_wide", "_law_sign", "_law_name", "_law_above"] ["_law_script"] (defScope s_law) := ⟨rfl, rfl, rfl, by decide +kernel, rfl, by decide +kernel, by decide +kernel⟩
/-! what the defs do, over data -/
def b__law_draw : DL.Env → Res Fl := sRet (eDct [(.inr "left", eIf (eB (eBin gGe (eVar 0) (eBin gPow (eC (.int 10)) (eC (.int 18))))) (eVar 0) (eC (.int 0))), (.inr "cell", eVar 0), (.inr "turns", eBin gMul (eC (.int 1000)) (eVar 1))])
def F__law_draw : DL.Env → Ret := runDef 2 none b__law_draw
def f0__law_text : DL.Env → Res Fl := sE (eMut gAppend 1 [eBin gAdd (eBin gAdd (eBin gAdd (eBin gAdd (eVar 2) (eC (.str " "))) (eIf (eB (eBin gNe (eVar 3) (eC (.str "")))) (eVar 3) (eC (.str "-")))) (eC (.str " "))) (eBi gStr [eVar 4])])
def b__law_text : DL.Env → Res Fl := sSeq (sSet 1 (eLst [eBin gAdd (eBin gAdd (eBin gAdd (eC (.str "tree ")) (eBi gStr [eBin gIx (eVar 0) (eC (.int 0))])) (eC (.str " "))) (eBi gStr [eBin gIx (eVar 0) (eC (.int 1))])])) (sSeq (sFor (tgT [tgN 2, tgN 3, tgN 4]) (iSeq (eBin gIx (eVar 0) (eC (.int 2)))) (f0__law_text)) (sRet (eM1 gJoin (eC (.str "\n")) (eVar 1))))
def F__law_text : DL.Env → Ret := runDef 5 none b__law_text
def e0_is_name : DL.Env → Res RV := eChain gLe gLe (eC (.str "a")) (eVar 1) (eC (.str "z"))
def b_is_name : DL.Env → Res Fl := sSeq (sIf (tOrE (tNotE (eT (eBi gIsi [eVar 0, eC (.ty "str")]))) (tNotE (eB (eChain gLe gLe (eC (.int 1)) (eBi gLen [eVar 0]) (eC (.int 8)))))) (sRet (eC (.bl false))) (sNx)) (sRet (eBi gAll [eLc [1] (tgN 1) (iSeq (eVar 0)) (cYes) (e0_is_name)]))
def F_is_name : DL.Env → Ret := runDef 2 none b_is_name
def b_is_whole : DL.Env → Res Fl := sRet (eAnd (eBi gIsi [eVar 0, eC (.ty "int")]) (eNot (eBi gIsi [eVar 0, eC (.ty "bool")])))
def F_is_whole : DL.Env → Ret := runDef 1 none b_is_whole
def b_is_among : DL.Env → Res Fl := sSeq (sIf (tOrE (tNotE (eT (eCall F_is_whole 1 none [] [(.v, eVar 0)]))) (tOrE (tNotE (eT (eCall F_is_whole 1 none [] [(.v, eVar 1)]))) (tNotE (eT (eCall F_is_whole 1 none [] [(.v, eVar 2)]))))) (sRet (eC (.bl false))) (sNx)) (sRet (eChain gLe gLe (eVar 1) (eVar 0) (eVar 2)))
def F_is_among : DL.Env → Ret := runDef 3 none b_is_among
def b_is_talk : DL.Env → Res Fl := sRet (eCall F_is_among 3 none [] [(.v, eVar 0), (.v, eC (.int 1)), (.v, eC (.int 60))])
def F_is_talk : DL.Env → Ret := runDef 1 none b_is_talk
def b_fits_behind : DL.Env → Res Fl := sSeq (sIf (tOrE (tNotE (eT (eBi gIsi [eVar 0, eC (.ty "tuple")]))) (eB (eBin gNe (eBi gLen [eVar 0]) (eC (.int 3))))) (sRet (eC (.bl false))) (sNx)) (sSeq (sAsg (tgT [tgN 2, tgN 3, tgN 4]) (eVar 0)) (sSeq (sIf (tOrE (tNotE (eT (eCall F_is_name 1 none [] [(.v, eVar 2)]))) (tOrE (eB (eBin gIn (eVar 2) (eVar 1))) (tNotE (eT (eCall F_is_talk 1 none [] [(.v, eVar 4)]))))) (sRet (eC (.bl false))) (sNx)) (sRet (eAnd (eBi gIsi [eVar 3, eC (.ty "str")]) (eOr (eBin gEq (eVar 3) (eC (.str ""))) (eBin gIn (eVar 3) (eVar 1)))))))
def F_fits_behind : DL.Env → Ret := runDef 5 none b_fits_behind
def f0_first_misfit : DL.Env → Res Fl := sSeq (sIf (tNotE (eT (eCall F_fits_behind 2 none [] [(.v, eVar 3), (.bor, eVar 1)]))) (sRet (eVar 2)) (sNx)) (sE (eMut gAppend 1 [eBin gIx (eVar 3) (eC (.int 0))]))
def b_first_misfit : DL.Env → Res Fl := sSeq (sSet 1 (eLst [])) (sSeq (sFor (tgT [tgN 2, tgN 3]) (iEnum 0 [eVar 0]) (f0_first_misfit)) (sRet (eC .non)))
def F_first_misfit : DL.Env → Ret := runDef 4 none b_first_misfit
def b_is_wait : DL.Env → Res Fl := sRet (eCall F_is_among 3 none [] [(.v, eVar 0), (.v, eC (.int 1)), (.v, eC (.int 60))])
def F_is_wait : DL.Env → Ret := runDef 1 none b_is_wait
def b_is_deep : DL.Env → Res Fl := sRet (eCall F_is_among 3 none [] [(.v, eVar 0), (.v, eC (.int 0)), (.v, eC (.int 4))])
def F_is_deep : DL.Env → Ret := runDef 1 none b_is_deep
def b_tree_fault : DL.Env → Res Fl := sSeq (sIf (tOrE (tNotE (eT (eBi gIsi [eVar 0, eC (.ty "tuple")]))) (eB (eBin gNe (eBi gLen [eVar 0]) (eC (.int 3))))) (sRet (eTup [eC .non, eC .non])) (sNx)) (sSeq (sAsg (tgT [tgN 1, tgN 2, tgN 3]) (eVar 0)) (sSeq (sIf (tNotE (eT (eCall F_is_wait 1 none [] [(.v, eVar 1)]))) (sRet (eTup [eC (.str "wait"), eC .non])) (sNx)) (sSeq (sIf (tNotE (eT (eCall F_is_deep 1 none [] [(.v, eVar 2)]))) (sRet (eTup [eC (.str "deep"), eC .non])) (sNx)) (sSeq (sIf (tOrE (tNotE (eT (eBi gIsi [eVar 3, eC (.ty "tuple")]))) (eB (eBin gGt (eBi gLen [eVar 3]) (eC (.int 16))))) (sRet (eTup [eC (.str "people"), eC .non])) (sNx)) (sSeq (sSet 4 (eCall F_first_misfit 1 none [] [(.v, eVar 3)])) (sRet (eIf (eB (eBin gIs (eVar 4) (eC .non))) (eC .non) (eTup [eC (.str "people"), eVar 4]))))))))
def F_tree_fault : DL.Env → Ret := runDef 5 none b_tree_fault
def b_need_tree : DL.Env → Res Fl := sSeq (sSet 1 (eCall F_tree_fault 1 none [] [(.v, eVar 0)])) (sIf (eB (eBin gIsNot (eVar 1) (eC .non))) (sSeq (sAsg (tgT [tgN 2, tgN 3]) (eVar 1)) (sNo)) (sNx))
def F_need_tree : DL.Env → Ret := runDef 4 none b_need_tree
def b_bell_or_name : DL.Env → Res Fl := sRet (eIf (eB (eBin gEq (eVar 0) (eC (.str "")))) (eC (.str "-")) (eVar 0))
def F_bell_or_name : DL.Env → Ret := runDef 1 none b_bell_or_name
def f0_tree_text : DL.Env → Res Fl := sE (eMut gAppend 4 [eJs [eFmt (eVar 5), eC (.str " "), eFmt (eCall F_bell_or_name 1 none [] [(.v, eVar 6)]), eC (.str " "), eFmt (eVar 7)] Str.empty])
def b_tree_text : DL.Env → Res Fl := sSeq (sE (eCall F_need_tree 1 none [] [(.v, eVar 0)])) (sSeq (sAsg (tgT [tgN 1, tgN 2, tgN 3]) (eVar 0)) (sSeq (sSet 4 (eLst [eJs [eC (.str "tree "), eFmt (eVar 1), eC (.str " "), eFmt (eVar 2)] Str.empty])) (sSeq (sFor (tgT [tgN 5, tgN 6, tgN 7]) (iSeq (eVar 3)) (f0_tree_text)) (sRet (eM1 gJoin (eC (.str "\n")) (eVar 4))))))
def F_tree_text : DL.Env → Ret := runDef 8 none b_tree_text
def b_rows_of : DL.Env → Res Fl := sSeq (sIf (tNotE (eT (eBi gIsi [eVar 0, eC (.ty "str")]))) (sNo) (sNx)) (sRet (eM1 gSplit (eVar 0) (eC (.str "\n"))))
def F_rows_of : DL.Env → Ret := runDef 1 none b_rows_of
def b_words_of : DL.Env → Res Fl := sSeq (sIf (tNotE (eT (eBi gIsi [eVar 0, eC (.ty "str")]))) (sRet (eC .non)) (sNx)) (sSeq (sSet 1 (eM1 gSplit (eVar 0) (eC (.str " ")))) (sRet (eIf (eB (eBin gIn (eC (.str "")) (eVar 1))) (eC .non) (eVar 1))))
def F_words_of : DL.Env → Ret := runDef 2 none b_words_of
def b_words_in : DL.Env → Res Fl := sSeq (sSet 2 (eCall F_words_of 1 none [] [(.v, eVar 1)])) (sSeq (sIf (eB (eBin gIs (eVar 2) (eC .non))) (sNo) (sNx)) (sRet (eVar 2)))
def F_words_in : DL.Env → Ret := runDef 3 none b_words_in
def f0_need_words : DL.Env → Res Fl := sIf (tNotE (eT (eVar 4))) (sNo) (sNx)
def b_need_words : DL.Env → Res Fl := sSeq (sFor (tgT [tgN 3, tgN 4]) (iEnum 1 [eVar 1]) (f0_need_words)) (sIf (eB (eBin gLt (eBi gLen [eVar 1]) (eVar 2))) (sNo) (sNx))
def F_need_words : DL.Env → Ret := runDef 5 none b_need_words
def e0_are_figures : DL.Env → Res RV := eChain gLe gLe (eC (.str "0")) (eVar 1) (eC (.str "9"))
def b_are_figures : DL.Env → Res Fl := sRet (eBi gAll [eLc [1] (tgN 1) (iSeq (eVar 0)) (cYes) (e0_are_figures)])
def F_are_figures : DL.Env → Ret := runDef 2 none b_are_figures
def b_number_of : DL.Env → Res Fl := sSeq (sIf (tOrE (tNotE (eT (eBi gIsi [eVar 0, eC (.ty "str")]))) (tNotE (eB (eChain gLe gLe (eC (.int 1)) (eBi gLen [eVar 0]) (eC (.int 5)))))) (sRet (eC .non)) (sNx)) (sSeq (sIf (tOrE (tNotE (eT (eCall F_are_figures 1 none [] [(.v, eVar 0)]))) (tAndE (eB (eBin gEq (eBin gIx (eVar 0) (eC (.int 0))) (eC (.str "0")))) (eB (eBin gNe (eVar 0) (eC (.str "0")))))) (sRet (eC .non)) (sNx)) (sRet (eBi gInt [eVar 0])))
def F_number_of : DL.Env → Ret := runDef 1 none b_number_of
def b_head_word_fits : DL.Env → Res Fl := sSeq (sIf (eB (eBin gEq (eVar 0) (eC (.int 1)))) (sRet (eBin gEq (eVar 1) (eC (.str "tree")))) (sNx)) (sSeq (sIf (eB (eBin gEq (eVar 0) (eC (.int 2)))) (sRet (eCall F_is_wait 1 none [] [(.v, eCall F_number_of 1 none [] [(.v, eVar 1)])])) (sNx)) (sRet (eAnd (eBin gEq (eVar 0) (eC (.int 3))) (eCall F_is_among 3 none [] [(.v, eCall F_number_of 1 none [] [(.v, eVar 1)]), (.v, eC (.int 0)), (.v, eVar 2)]))))
def F_head_word_fits : DL.Env → Ret := runDef 3 none b_head_word_fits
def e0_read_head : DL.Env → Res RV := eCall F_head_word_fits 3 none [] [(.v, eVar 4), (.v, eVar 5), (.v, eVar 2)]
def b_read_head : DL.Env → Res Fl := sSeq (sSet 3 (eCall F_words_in 2 none [] [(.v, eVar 0), (.v, eVar 1)])) (sSeq (sE (eCall F_need_words 3 none [] [(.v, eVar 0), (.v, eLc [4, 5] (tgT [tgN 4, tgN 5]) (iEnum 1 [eVar 3]) (cYes) (e0_read_head)), (.v, eC (.int 3))])) (sRet (eTup [eCall F_number_of 1 none [] [(.v, eBin gIx (eVar 3) (eC (.int 1)))], eCall F_number_of 1 none [] [(.v, eBin gIx (eVar 3) (eC (.int 2)))]])))
def F_read_head : DL.Env → Ret := runDef 6 none b_read_head
def b_person_word_fits : DL.Env → Res Fl := sSeq (sIf (eB (eBin gEq (eVar 0) (eC (.int 1)))) (sRet (eAnd (eCall F_is_name 1 none [] [(.v, eVar 1)]) (eBin gNotIn (eVar 1) (eVar 2)))) (sNx)) (sSeq (sIf (eB (eBin gEq (eVar 0) (eC (.int 2)))) (sRet (eOr (eBin gEq (eVar 1) (eC (.str "-"))) (eBin gIn (eVar 1) (eVar 2)))) (sNx)) (sRet (eAnd (eBin gEq (eVar 0) (eC (.int 3))) (eCall F_is_talk 1 none [] [(.v, eCall F_number_of 1 none [] [(.v, eVar 1)])]))))
def F_person_word_fits : DL.Env → Ret := runDef 3 none b_person_word_fits
def e0_read_person : DL.Env → Res RV := eBin gIx (eVar 9) (eC (.int 0))
def e1_read_person : DL.Env → Res RV := eCall F_person_word_fits 3 none [] [(.v, eVar 10), (.v, eVar 11), (.v, eVar 4)]
def b_read_person : DL.Env → Res Fl := sSeq (sIf (eB (eBin gEq (eBi gLen [eVar 2]) (eC (.int 16)))) (sNo) (sNx)) (sSeq (sSet 3 (eCall F_words_in 2 none [] [(.v, eVar 0), (.v, eVar 1)])) (sSeq (sSet 4 (eLc [9] (tgN 9) (iSeq (eVar 2)) (cYes) (e0_read_person))) (sSeq (sE (eCall F_need_words 3 none [] [(.v, eVar 0), (.v, eLc [10, 11] (tgT [tgN 10, tgN 11]) (iEnum 1 [eVar 3]) (cYes) (e1_read_person)), (.v, eC (.int 3))])) (sSeq (sAsg (tgT [tgN 5, tgN 6, tgN 7]) (eVar 3)) (sSeq (sSet 8 (eIf (eB (eBin gEq (eVar 6) (eC (.str "-")))) (eC (.str "")) (eVar 6))) (sRet (eTup [eVar 5, eVar 8, eCall F_number_of 1 none [] [(.v, eVar 7)]])))))))
def F_read_person : DL.Env → Ret := runDef 12 none b_read_person
def f0_read_tree : DL.Env → Res Fl := sE (eMut gAppend 4 [eCall F_read_person 3 none [] [(.v, eVar 5), (.v, eVar 6), (.bor, eVar 4)]])
def b_read_tree : DL.Env → Res Fl := sSeq (sSet 1 (eCall F_rows_of 1 none [] [(.v, eVar 0)])) (sSeq (sAsg (tgT [tgN 2, tgN 3]) (eCall F_read_head 3 none [] [(.v, eC (.int 1)), (.v, eBin gIx (eVar 1) (eC (.int 0))), (.v, eC (.int 4))])) (sSeq (sSet 4 (eLst [])) (sSeq (sFor (tgT [tgN 5, tgN 6]) (iEnum 2 [eSl (eVar 1) (some (eC (.int 1))) none]) (f0_read_tree)) (sRet (eTup [eVar 2, eVar 3, eBi gTuple [eVar 4]])))))
def F_read_tree : DL.Env → Ret := runDef 7 none b_read_tree
def b__law_right : DL.Env → Res Fl := sSeq (sSet 1 (eCall F__law_text 1 none [] [(.v, eVar 0)])) (sRet (eAnd (eBin gEq (eCall F_tree_text 1 none [] [(.v, eVar 0)]) (eVar 1)) (eBin gEq (eBi gRepr [eCall F_read_tree 1 none [] [(.v, eVar 1)]]) (eBi gRepr [eVar 0]))))
def F__law_right : DL.Env → Ret := runDef 2 none b__law_right
def b__law_mixed : DL.Env → Res Fl := sSeq (sSet 2 (eBin gAdd (eBin gAdd (eBin gMod (eVar 0) (eBin gIx (eLst [eC (.int 1000000007), eC (.int 998244353), eC (.int 2147483629), eC (.int 1000000009)]) (eBin gMod (eVar 1) (eC (.int 4))))) (eBin gMul (eC (.int 7919)) (eVar 1))) (eC (.int 13)))) (sRet (eBin gMod (eBin gMul (eBin gMod (eBin gMul (eVar 2) (eVar 2)) (eC (.int 2147483647))) (eC (.int 48271))) (eC (.int 2147483647))))
def F__law_mixed : DL.Env → Ret := runDef 3 none b__law_mixed
def f0__law_digit : DL.Env → Res Fl := sSeq (sPut 0 (eC (.str "turns")) (eBin gAdd (eBin gIx (eVar 0) (eC (.str "turns"))) (eC (.int 1)))) (sPut 0 (eC (.str "left")) (eBin gAdd (eBin gMul (eBin gIx (eVar 0) (eC (.str "left"))) (eC (.int 2147483647))) (eCall F__law_mixed 2 none [] [(.v, eBin gIx (eVar 0) (eC (.str "cell"))), (.v, eBin gIx (eVar 0) (eC (.str "turns")))])))
def b__law_digit : DL.Env → Res Fl := sSeq (sIf (eB (eBin gEq (eBin gIx (eVar 0) (eC (.str "left"))) (eC (.int 0)))) (sFor (tgN 2) (iRange1 (eC (.int 4))) (f0__law_digit)) (sNx)) (sSeq (sSet 3 (eBin gMod (eBin gIx (eVar 0) (eC (.str "left"))) (eVar 1))) (sSeq (sPut 0 (eC (.str "left")) (eBin gDiv (eBin gIx (eVar 0) (eC (.str "left"))) (eVar 1))) (sRet (eVar 3))))
def F__law_digit : DL.Env → Ret := runDef 4 (some 0) b__law_digit
def e0__law_word : DL.Env → Res RV := eBin gIx (eC (.str "abcdefghijklmnopqrstuvwxyz")) (eCall F__law_digit 2 (some 0) [] [(.io, eVar 0), (.v, eC (.int 26))])
def b__law_word : DL.Env → Res Fl := sSeq (sSet 1 (eLc [3] (tgN 3) (iRange1 (eBin gAdd (eC (.int 1)) (eCall F__law_digit 2 (some 0) [] [(.io, eVar 0), (.v, eC (.int 8))]))) (cYes) (e0__law_word))) (sSeq (sSet 2 (eLst [eM1 gJoin (eC (.str "")) (eVar 1), eM1 gJoin (eC (.str "")) (eSl (eVar 1) none (some (eC (.int 2)))), eC (.str "a"), eC (.str "ab"), eC (.str "b"), eC (.str "bell"), eC (.str "away"), eC (.str "tree"), eC (.str "told"), eC (.str "last"), eC (.str "lost"), eC (.str "ring")])) (sRet (eBin gIx (eVar 2) (eCall F__law_digit 2 (some 0) [] [(.io, eVar 0), (.v, eC (.int 12))]))))
def F__law_word : DL.Env → Ret := runDef 4 (some 0) b__law_word
def f0__law_tree : DL.Env → Res Fl := sSeq (sPar 8 9 (eCall F__law_word 1 (some 0) [] [(.io, eVar 0)]) (eBin gIx (eLst [eC (.int 1), eC (.int 4), eC (.int 4), eBin gAdd (eC (.int 1)) (eCall F__law_digit 2 (some 0) [] [(.io, eVar 0), (.v, eC (.int 60))])]) (eCall F__law_digit 2 (some 0) [] [(.io, eVar 0), (.v, eC (.int 4))]))) (sSeq (sSet 10 (eBin gAdd (eLst [eC (.str "")]) (eVar 5))) (sSeq (sSet 10 (eBin gIx (eLst [eVar 10, eSl (eVar 10) (some (eUn gNeg (eC (.int 1)))) none, eSl (eVar 10) none (some (eC (.int 2))), eSl (eVar 10) (some (eUn gNeg (eC (.int 3)))) none]) (eVar 2))) (sSeq (sSet 11 (eBin gIx (eVar 10) (eCall F__law_digit 2 (some 0) [] [(.io, eVar 0), (.v, eBi gLen [eVar 10])]))) (sIf (tAndE (eB (eBin gNotIn (eVar 8) (eVar 5))) (eB (eBin gLt (eBi gLen [eVar 5]) (eVar 3)))) (sSeq (sE (eMut gAppend 5 [eVar 8])) (sE (eMut gAppend 6 [eTup [eVar 8, eVar 11, eVar 9]]))) (sNx)))))
def b__law_tree : DL.Env → Res Fl := sSeq (sPar 2 3 (eCall F__law_digit 2 (some 0) [] [(.io, eVar 0), (.v, eC (.int 4))]) (eCall F__law_digit 2 (some 0) [] [(.io, eVar 0), (.v, eBin gAdd (eVar 1) (eC (.int 1)))])) (sSeq (sSet 4 (eTup [eBin gAdd (eC (.int 1)) (eCall F__law_digit 2 (some 0) [] [(.io, eVar 0), (.v, eC (.int 60))]), eCall F__law_digit 2 (some 0) [] [(.io, eVar 0), (.v, eC (.int 5))]])) (sSeq (sPar 5 6 (eLst []) (eLst [])) (sSeq (sFor (tgN 7) (iRange1 (eBin gMul (eC (.int 2)) (eVar 3))) (f0__law_tree)) (sRet (eBin gAdd (eVar 4) (eTup [eBi gTuple [eVar 6]]))))))
def F__law_tree : DL.Env → Ret := runDef 12 (some 0) b__law_tree
def f0_law : DL.Env → Res Fl := sSeq (sSet 3 (eCall F__law_draw 2 none [] [(.v, eVar 2), (.v, eVar 1)])) (sIf (tNotE (eT (eCall F__law_right 1 none [] [(.v, eCall F__law_tree 2 (some 0) [] [(.io, eVar 3), (.v, eBin gIx (eLst [eC (.int 16), eC (.int 16), eC (.int 3)]) (eCall F__law_digit 2 (some 0) [] [(.io, eVar 3), (.v, eC (.int 3))]))])]))) (sRet (eC (.bl false))) (sNx))
def e0_law : DL.Env → Res RV := eBin gAdd (eC (.str "abcdefg")) (eVar 7)
def e1_law : DL.Env → Res RV := eTup [eVar 8, eVar 9, eC (.int 60)]
def e2_law : DL.Env → Res RV := eTup [eVar 8, eC (.str ""), eC (.int 1)]
def b_law : DL.Env → Res Fl := sSeq (sFor (tgT [tgN 1, tgN 2]) (iEnum 0 [eBin gAdd (eSl (eVar 0) none (some (eC (.int 10)))) (eLst [eBi gSum [eVar 0]])]) (f0_law)) (sSeq (sSet 4 (eLc [7] (tgN 7) (iSeq (eC (.str "abcdefghijklmnop"))) (cYes) (e0_law))) (sSeq (sSet 5 (eTup [eC (.int 60), eC (.int 4), eBi gTuple [eLc [8, 9] (tgT [tgN 8, tgN 9]) (iZip [eVar 4, eBin gAdd (eLst [eC (.str "")]) (eVar 4)]) (cYes) (e1_law)]])) (sSeq (sSet 6 (eTup [eC (.int 1), eC (.int 0), eBi gTuple [eLc [8] (tgN 8) (iSeq (eRev (eVar 4))) (cYes) (e2_law)]])) (sSeq (sIf (tOrE (tNotE (eT (eCall F__law_right 1 none [] [(.v, eVar 5)]))) (tNotE (eT (eCall F__law_right 1 none [] [(.v, eVar 6)])))) (sRet (eC (.bl false))) (sNx)) (sRet (eAnd (eCall F__law_right 1 none [] [(.v, eTup [eC (.int 7), eC (.int 3), eTup []])]) (eCall F__law_right 1 none [] [(.v, eTup [eC (.int 1), eC (.int 1), eTup [eTup [eC (.str "tree"), eC (.str ""), eC (.int 9)]]])])))))))
def F_law : DL.Env → Ret := runDef 10 none b_law
structure Top (K : PySem.W.Frag) (mg : Str → Option Value) : Prop where
  z_all : mg "all" = none
  z_bool : mg "bool" = none
  z_enumerate : mg "enumerate" = none
  z_int : mg "int" = none
  z_isinstance : mg "isinstance" = none
  z_len : mg "len" = none
  z_range : mg "range" = none
  z_repr : mg "repr" = none
  z_str : mg "str" = none
  z_sum : mg "sum" = none
  z_tuple : mg "tuple" = none
  z_zip : mg "zip" = none
  c_BELL_WORD : ∃ u, mg "BELL_WORD" = some u ∧ RelV (.str "-") u
  c_DEEPEST : ∃ u, mg "DEEPEST" = some u ∧ RelV (.int 4) u
  c_LONGEST_CALL : ∃ u, mg "LONGEST_CALL" = some u ∧ RelV (.int 60) u
  c_LONGEST_NAME : ∃ u, mg "LONGEST_NAME" = some u ∧ RelV (.int 8) u
  c_MOST_FIGURES : ∃ u, mg "MOST_FIGURES" = some u ∧ RelV (.int 5) u
  c_MOST_PEOPLE : ∃ u, mg "MOST_PEOPLE" = some u ∧ RelV (.int 16) u
  f__law_draw : ∃ f fd, mg "_law_draw" = some (.ref f) ∧ PySem.W.keepIn K (.ref f) = true ∧ Fun K "_law_draw" "_law_draw" s__law_draw f fd ∧ Binds K fd ["_law_cell", "_law_k"] []
  f__law_text : ∃ f fd, mg "_law_text" = some (.ref f) ∧ PySem.W.keepIn K (.ref f) = true ∧ Fun K "_law_text" "_law_text" s__law_text f fd ∧ Binds K fd ["_law_tree_here"] []
  f_is_name : ∃ f fd, mg "is_name" = some (.ref f) ∧ PySem.W.keepIn K (.ref f) = true ∧ Fun K "is_name" "is_name" s_is_name f fd ∧ Binds K fd ["thing"] []
  f_is_whole : ∃ f fd, mg "is_whole" = some (.ref f) ∧ PySem.W.keepIn K (.ref f) = true ∧ Fun K "is_whole" "is_whole" s_is_whole f fd ∧ Binds K fd ["thing"] []
  f_is_among : ∃ f fd, mg "is_among" = some (.ref f) ∧ PySem.W.keepIn K (.ref f) = true ∧ Fun K "is_among" "is_among" s_is_among f fd ∧ Binds K fd ["thing", "least", "most"] []
  f_is_talk : ∃ f fd, mg "is_talk" = some (.ref f) ∧ PySem.W.keepIn K (.ref f) = true ∧ Fun K "is_talk" "is_talk" s_is_talk f fd ∧ Binds K fd ["thing"] []
  f_fits_behind : ∃ f fd, mg "fits_behind" = some (.ref f) ∧ PySem.W.keepIn K (.ref f) = true ∧ Fun K "fits_behind" "fits_behind" s_fits_behind f fd ∧ Binds K fd ["thing", "ahead"] []
  f_first_misfit : ∃ f fd, mg "first_misfit" = some (.ref f) ∧ PySem.W.keepIn K (.ref f) = true ∧ Fun K "first_misfit" "first_misfit" s_first_misfit f fd ∧ Binds K fd ["people"] []
  f_is_wait : ∃ f fd, mg "is_wait" = some (.ref f) ∧ PySem.W.keepIn K (.ref f) = true ∧ Fun K "is_wait" "is_wait" s_is_wait f fd ∧ Binds K fd ["thing"] []
  f_is_deep : ∃ f fd, mg "is_deep" = some (.ref f) ∧ PySem.W.keepIn K (.ref f) = true ∧ Fun K "is_deep" "is_deep" s_is_deep f fd ∧ Binds K fd ["thing"] []
  f_tree_fault : ∃ f fd, mg "tree_fault" = some (.ref f) ∧ PySem.W.keepIn K (.ref f) = true ∧ Fun K "tree_fault" "tree_fault" s_tree_fault f fd ∧ Binds K fd ["thing"] []
  f_need_tree : ∃ f fd, mg "need_tree" = some (.ref f) ∧ PySem.W.keepIn K (.ref f) = true ∧ Fun K "need_tree" "need_tree" s_need_tree f fd ∧ Binds K fd ["tree"] []
  f_bell_or_name : ∃ f fd, mg "bell_or_name" = some (.ref f) ∧ PySem.W.keepIn K (.ref f) = true ∧ Fun K "bell_or_name" "bell_or_name" s_bell_or_name f fd ∧ Binds K fd ["name"] []
  f_tree_text : ∃ f fd, mg "tree_text" = some (.ref f) ∧ PySem.W.keepIn K (.ref f) = true ∧ Fun K "tree_text" "tree_text" s_tree_text f fd ∧ Binds K fd ["tree"] []
  f_rows_of : ∃ f fd, mg "rows_of" = some (.ref f) ∧ PySem.W.keepIn K (.ref f) = true ∧ Fun K "rows_of" "rows_of" s_rows_of f fd ∧ Binds K fd ["text"] []
  f_words_of : ∃ f fd, mg "words_of" = some (.ref f) ∧ PySem.W.keepIn K (.ref f) = true ∧ Fun K "words_of" "words_of" s_words_of f fd ∧ Binds K fd ["row"] []
  f_words_in : ∃ f fd, mg "words_in" = some (.ref f) ∧ PySem.W.keepIn K (.ref f) = true ∧ Fun K "words_in" "words_in" s_words_in f fd ∧ Binds K fd ["number", "row"] []
  f_need_words : ∃ f fd, mg "need_words" = some (.ref f) ∧ PySem.W.keepIn K (.ref f) = true ∧ Fun K "need_words" "need_words" s_need_words f fd ∧ Binds K fd ["number", "fits", "many"] []
  f_are_figures : ∃ f fd, mg "are_figures" = some (.ref f) ∧ PySem.W.keepIn K (.ref f) = true ∧ Fun K "are_figures" "are_figures" s_are_figures f fd ∧ Binds K fd ["text"] []
  f_number_of : ∃ f fd, mg "number_of" = some (.ref f) ∧ PySem.W.keepIn K (.ref f) = true ∧ Fun K "number_of" "number_of" s_number_of f fd ∧ Binds K fd ["word"] []
  f_head_word_fits : ∃ f fd, mg "head_word_fits" = some (.ref f) ∧ PySem.W.keepIn K (.ref f) = true ∧ Fun K "head_word_fits" "head_word_fits" s_head_word_fits f fd ∧ Binds K fd ["place", "word", "deepest"] []
  f_read_head : ∃ f fd, mg "read_head" = some (.ref f) ∧ PySem.W.keepIn K (.ref f) = true ∧ Fun K "read_head" "read_head" s_read_head f fd ∧ Binds K fd ["number", "row", "deepest"] []
  f_person_word_fits : ∃ f fd, mg "person_word_fits" = some (.ref f) ∧ PySem.W.keepIn K (.ref f) = true ∧ Fun K "person_word_fits" "person_word_fits" s_person_word_fits f fd ∧ Binds K fd ["place", "word", "ahead"] []
  f_read_person : ∃ f fd, mg "read_person" = some (.ref f) ∧ PySem.W.keepIn K (.ref f) = true ∧ Fun K "read_person" "read_person" s_read_person f fd ∧ Binds K fd ["number", "row", "people"] []
  f_read_tree : ∃ f fd, mg "read_tree" = some (.ref f) ∧ PySem.W.keepIn K (.ref f) = true ∧ Fun K "read_tree" "read_tree" s_read_tree f fd ∧ Binds K fd ["text"] []
  f__law_right : ∃ f fd, mg "_law_right" = some (.ref f) ∧ PySem.W.keepIn K (.ref f) = true ∧ Fun K "_law_right" "_law_right" s__law_right f fd ∧ Binds K fd ["_law_tree_here"] []
  f__law_mixed : ∃ f fd, mg "_law_mixed" = some (.ref f) ∧ PySem.W.keepIn K (.ref f) = true ∧ Fun K "_law_mixed" "_law_mixed" s__law_mixed f fd ∧ Binds K fd ["_law_cell", "_law_k"] []
  f__law_digit : ∃ f fd, mg "_law_digit" = some (.ref f) ∧ PySem.W.keepIn K (.ref f) = true ∧ Fun K "_law_digit" "_law_digit" s__law_digit f fd ∧ Binds K fd ["_law_state", "_law_many"] []
  f__law_word : ∃ f fd, mg "_law_word" = some (.ref f) ∧ PySem.W.keepIn K (.ref f) = true ∧ Fun K "_law_word" "_law_word" s__law_word f fd ∧ Binds K fd ["_law_state"] []
  f__law_tree : ∃ f fd, mg "_law_tree" = some (.ref f) ∧ PySem.W.keepIn K (.ref f) = true ∧ Fun K "_law_tree" "_law_tree" s__law_tree f fd ∧ Binds K fd ["_law_state", "_law_most"] []
  f_law : ∃ f fd, mg "law" = some (.ref f) ∧ PySem.W.keepIn K (.ref f) = true ∧ Fun K "law" "law" s_law f fd ∧ Binds K fd ["_law_script"] []
theorem body__law_draw {P : Program} {w : World} {K : PySem.W.Frag} {mg : Str → Option Value} {base : Heap} (T : Top K mg) (f : Addr) (cdv : Value) (A : Around) (outer : List PySem.Env) (s : Shared) (H : Hp) (E : XK) (hgu : A.guards = some []) (hr : Room 0 (A.deeper (envOfC "_law_draw" (defScope s__law_draw) s.heap.objs.size f cdv))) :
    DSs (cxOf (L2.CX P w) P w K mg base ["_law_cell", "_law_k"] "_law_draw" (defScope s__law_draw) f cdv A outer s H E) (wE E) (defBody s__law_draw) b__law_draw := by
  have hu1 := room_1 hr
  have hu64 := room_64 hr
  have hu100 := room_100 hr
  exact dss_one (ds_ret (de_disp (.cons pe_str (de_if (dt_cmp o_ge p_ge (de_var (pv 0)) (de_op op_pow p_pow (de_int) (de_int))) (de_var (pv 0)) (de_int)) (.cons pe_str (de_var (pv 0)) (.cons pe_str (de_op o_mul p_mul (de_int) (de_var (pv 1))) (.nil))))))
theorem ok__law_draw {P : Program} {w : World} {K : PySem.W.Frag} {mg : Str → Option Value} {base : Heap} (T : Top K mg) : Def P w K mg base "_law_draw" 1 2 [] none F__law_draw :=
  def_mk (st := s__law_draw) (N := ["_law_cell", "_law_k"]) (ps := ["_law_cell", "_law_k"]) T.f__law_draw sc__law_draw (body__law_draw T)
theorem body__law_text {P : Program} {w : World} {K : PySem.W.Frag} {mg : Str → Option Value} {base : Heap} (T : Top K mg) (f : Addr) (cdv : Value) (A : Around) (outer : List PySem.Env) (s : Shared) (H : Hp) (E : XK) (hgu : A.guards = some []) (hr : Room 0 (A.deeper (envOfC "_law_text" (defScope s__law_text) s.heap.objs.size f cdv))) :
    DSs (cxOf (L2.CX P w) P w K mg base ["_law_tree_here", "_law_rows", "_law_name", "_law_caller", "_law_talk"] "_law_text" (defScope s__law_text) f cdv A outer s H E) (wE E) (defBody s__law_text) b__law_text := by
  have hu1 := room_1 hr
  have hu64 := room_64 hr
  have hu100 := room_100 hr
  exact dss_cons (ds_set (i := 1) sc__law_text.nd rfl (.inl rfl) (de_lst (dd_cons (de_op o_add p_add (de_op o_add p_add (de_op o_add p_add (de_str) (de_ty call_str_int p_str (by rfl) T.z_str boot_str (da_cons (de_ix (i_ix hu1) p_ix (de_var (pv 0)) (de_int)) (da_nil)))) (de_str)) (de_ty call_str_int p_str (by rfl) T.z_str boot_str (da_cons (de_ix (i_ix hu1) p_ix (de_var (pv 0)) (de_int)) (da_nil)))) (dd_nil)))) (dss_cons (ds_for (ix := [2, 3, 4]) (passes_of rfl) rfl (di_seq (de_ix (i_ix hu1) p_ix (de_var (pv 0)) (de_int))) (dtg_tup rfl (dtgs_cons (dtg_name (i := 2) sc__law_text.nd rfl (.inl rfl) (by decide)) (dtgs_cons (dtg_name (i := 3) sc__law_text.nd rfl (.inl rfl) (by decide)) (dtgs_cons (dtg_name (i := 4) sc__law_text.nd rfl (.inl rfl) (by decide)) (dtgs_nil))))) (dss_one (ds_expr (de_append (pv 1) (de_op o_add p_add (de_op o_add p_add (de_op o_add p_add (de_op o_add p_add (de_var (pv 2)) (de_str)) (de_if (dt_cmp (o_ne hu64) p_ne (de_var (pv 3)) (de_str)) (de_var (pv 3)) (de_str))) (de_str)) (de_ty call_str_int p_str (by rfl) T.z_str boot_str (da_cons (de_var (pv 4)) (da_nil)))))))) (dss_one (ds_ret (de_join (de_str) (de_var (pv 1))))))
theorem ok__law_text {P : Program} {w : World} {K : PySem.W.Frag} {mg : Str → Option Value} {base : Heap} (T : Top K mg) : Def P w K mg base "_law_text" 1 1 [] none F__law_text :=
  def_mk (st := s__law_text) (N := ["_law_tree_here", "_law_rows", "_law_name", "_law_caller", "_law_talk"]) (ps := ["_law_tree_here"]) T.f__law_text sc__law_text (body__law_text T)
theorem body_is_name {P : Program} {w : World} {K : PySem.W.Frag} {mg : Str → Option Value} {base : Heap} (T : Top K mg) (f : Addr) (cdv : Value) (A : Around) (outer : List PySem.Env) (s : Shared) (H : Hp) (E : XK) (hgu : A.guards = some []) (hr : Room 0 (A.deeper (envOfC "is_name" (defScope s_is_name) s.heap.objs.size f cdv))) :
    DSs (cxOf (L2.CX P w) P w K mg base ["thing", "sign"] "is_name" (defScope s_is_name) f cdv A outer s H E) (wE E) (defBody s_is_name) b_is_name := by
  have hu1 := room_1 hr
  have hu64 := room_64 hr
  have hu100 := room_100 hr
  exact dss_cons (ds_if (dt_w (dw_or (dt_not (dt_val (de_bi call_isi p_isi (by rfl) T.z_isinstance boot_isinstance (da_cons (de_var (pv 0)) (da_cons (de_tyN (by rfl) T.z_str boot_str) (da_nil)))))) (dw_or1 (dt_not (dt_chain o_le p_le o_le p_le (de_int) (de_bi call_len p_len (by rfl) T.z_len boot_len (da_cons (de_var (pv 0)) (da_nil))) (de_gc (by rfl) T.c_LONGEST_NAME fun _ => .int _)))))) (dss_one (ds_ret (de_bl))) (dss_nil)) (dss_one (ds_ret (de_bi (cr_all rfl) p_all (by rfl) T.z_all boot_all (da_cons (de_lc (own := [("sign", 1)]) rfl sc_is_name.nd (di_seq (de_var (pv 0))) (blkOk_by (N := ["thing", "sign"]) (sc := defScope s_is_name) (by decide +kernel)) (fun _ _ _ _ _ => dtg_name (i := 1) sc_is_name.nd rfl (.inl rfl) (by decide)) (fun _ _ _ _ _ => pts_yes) (fun _ _ _ _ _ => de_chain o_le p_le o_le p_le (de_str) (de_var (pv 1)) (de_str))) (da_nil)))))
theorem ok_is_name {P : Program} {w : World} {K : PySem.W.Frag} {mg : Str → Option Value} {base : Heap} (T : Top K mg) : Def P w K mg base "is_name" 1 1 [] none F_is_name :=
  def_mk (st := s_is_name) (N := ["thing", "sign"]) (ps := ["thing"]) T.f_is_name sc_is_name (body_is_name T)
theorem body_is_whole {P : Program} {w : World} {K : PySem.W.Frag} {mg : Str → Option Value} {base : Heap} (T : Top K mg) (f : Addr) (cdv : Value) (A : Around) (outer : List PySem.Env) (s : Shared) (H : Hp) (E : XK) (hgu : A.guards = some []) (hr : Room 0 (A.deeper (envOfC "is_whole" (defScope s_is_whole) s.heap.objs.size f cdv))) :
    DSs (cxOf (L2.CX P w) P w K mg base ["thing"] "is_whole" (defScope s_is_whole) f cdv A outer s H E) (wE E) (defBody s_is_whole) b_is_whole := by
  have hu1 := room_1 hr
  have hu64 := room_64 hr
  have hu100 := room_100 hr
  exact dss_one (ds_ret (de_and (de_bi call_isi p_isi (by rfl) T.z_isinstance boot_isinstance (da_cons (de_var (pv 0)) (da_cons (de_tyN (by rfl) T.z_int boot_int) (da_nil)))) (de_and1 (de_not (de_bi call_isi p_isi (by rfl) T.z_isinstance boot_isinstance (da_cons (de_var (pv 0)) (da_cons (de_tyN (by rfl) T.z_bool boot_bool) (da_nil))))))))
theorem ok_is_whole {P : Program} {w : World} {K : PySem.W.Frag} {mg : Str → Option Value} {base : Heap} (T : Top K mg) : Def P w K mg base "is_whole" 1 1 [] none F_is_whole :=
  def_mk (st := s_is_whole) (N := ["thing"]) (ps := ["thing"]) T.f_is_whole sc_is_whole (body_is_whole T)
theorem body_is_among {P : Program} {w : World} {K : PySem.W.Frag} {mg : Str → Option Value} {base : Heap} (T : Top K mg) (f : Addr) (cdv : Value) (A : Around) (outer : List PySem.Env) (s : Shared) (H : Hp) (E : XK) (hgu : A.guards = some []) (hr : Room 1 (A.deeper (envOfC "is_among" (defScope s_is_among) s.heap.objs.size f cdv))) :
    DSs (cxOf (L2.CX P w) P w K mg base ["thing", "least", "most"] "is_among" (defScope s_is_among) f cdv A outer s H E) (wE E) (defBody s_is_among) b_is_among := by
  have hu1 := room_1 hr
  have hu64 := room_64 hr
  have hu100 := room_100 hr
  exact dss_cons (ds_if (dt_w (dw_or (dt_not (dt_val (de_call (ok_is_whole T) hgu (hr.mono (by decide)) (takes_of rfl rfl rfl rfl) (by rfl) (dg_v (de_var (pv 0)) (dg_nil))))) (dw_or (dt_not (dt_val (de_call (ok_is_whole T) hgu (hr.mono (by decide)) (takes_of rfl rfl rfl rfl) (by rfl) (dg_v (de_var (pv 1)) (dg_nil))))) (dw_or1 (dt_not (dt_val (de_call (ok_is_whole T) hgu (hr.mono (by decide)) (takes_of rfl rfl rfl rfl) (by rfl) (dg_v (de_var (pv 2)) (dg_nil))))))))) (dss_one (ds_ret (de_bl))) (dss_nil)) (dss_one (ds_ret (de_chain o_le p_le o_le p_le (de_var (pv 1)) (de_var (pv 0)) (de_var (pv 2)))))
theorem ok_is_among {P : Program} {w : World} {K : PySem.W.Frag} {mg : Str → Option Value} {base : Heap} (T : Top K mg) : Def P w K mg base "is_among" 2 3 [] none F_is_among :=
  def_mk (st := s_is_among) (N := ["thing", "least", "most"]) (ps := ["thing", "least", "most"]) T.f_is_among sc_is_among (body_is_among T)
theorem body_is_talk {P : Program} {w : World} {K : PySem.W.Frag} {mg : Str → Option Value} {base : Heap} (T : Top K mg) (f : Addr) (cdv : Value) (A : Around) (outer : List PySem.Env) (s : Shared) (H : Hp) (E : XK) (hgu : A.guards = some []) (hr : Room 2 (A.deeper (envOfC "is_talk" (defScope s_is_talk) s.heap.objs.size f cdv))) :
    DSs (cxOf (L2.CX P w) P w K mg base ["thing"] "is_talk" (defScope s_is_talk) f cdv A outer s H E) (wE E) (defBody s_is_talk) b_is_talk := by
  have hu1 := room_1 hr
  have hu64 := room_64 hr
  have hu100 := room_100 hr
  exact dss_one (ds_ret (de_call (ok_is_among T) hgu (hr.mono (by decide)) (takes_of rfl rfl rfl rfl) (by rfl) (dg_v (de_var (pv 0)) (dg_v (de_int) (dg_v (de_gc (by rfl) T.c_LONGEST_CALL fun _ => .int _) (dg_nil))))))
theorem ok_is_talk {P : Program} {w : World} {K : PySem.W.Frag} {mg : Str → Option Value} {base : Heap} (T : Top K mg) : Def P w K mg base "is_talk" 3 1 [] none F_is_talk :=
  def_mk (st := s_is_talk) (N := ["thing"]) (ps := ["thing"]) T.f_is_talk sc_is_talk (body_is_talk T)
theorem body_fits_behind {P : Program} {w : World} {K : PySem.W.Frag} {mg : Str → Option Value} {base : Heap} (T : Top K mg) (f : Addr) (cdv : Value) (A : Around) (outer : List PySem.Env) (s : Shared) (H : Hp) (E : XK) (hgu : A.guards = some []) (hr : Room 3 (A.deeper (envOfC "fits_behind" (defScope s_fits_behind) s.heap.objs.size f cdv))) :
    DSs (cxOf (L2.CX P w) P w K mg base ["thing", "ahead", "name", "caller", "talk"] "fits_behind" (defScope s_fits_behind) f cdv A outer s H E) (wE E) (defBody s_fits_behind) b_fits_behind := by
  have hu1 := room_1 hr
  have hu64 := room_64 hr
  have hu100 := room_100 hr
  exact dss_cons (ds_if (dt_w (dw_or (dt_not (dt_val (de_bi call_isi p_isi (by rfl) T.z_isinstance boot_isinstance (da_cons (de_var (pv 0)) (da_cons (de_tyN (by rfl) T.z_tuple boot_tuple) (da_nil)))))) (dw_or1 (dt_cmp (o_ne hu64) p_ne (de_bi call_len p_len (by rfl) T.z_len boot_len (da_cons (de_var (pv 0)) (da_nil))) (de_int))))) (dss_one (ds_ret (de_bl))) (dss_nil)) (dss_cons (ds_asg (ix := [2, 3, 4]) (de_var (pv 0)) (dtg_tup rfl (dtgs_cons (dtg_name (i := 2) sc_fits_behind.nd rfl (.inl rfl) (by decide)) (dtgs_cons (dtg_name (i := 3) sc_fits_behind.nd rfl (.inl rfl) (by decide)) (dtgs_cons (dtg_name (i := 4) sc_fits_behind.nd rfl (.inl rfl) (by decide)) (dtgs_nil)))))) (dss_cons (ds_if (dt_w (dw_or (dt_not (dt_val (de_call (ok_is_name T) hgu (hr.mono (by decide)) (takes_of rfl rfl rfl rfl) (by rfl) (dg_v (de_var (pv 2)) (dg_nil))))) (dw_or (dt_cmp o_in p_in (de_var (pv 2)) (de_var (pv 1))) (dw_or1 (dt_not (dt_val (de_call (ok_is_talk T) hgu (hr.mono (by decide)) (takes_of rfl rfl rfl rfl) (by rfl) (dg_v (de_var (pv 4)) (dg_nil))))))))) (dss_one (ds_ret (de_bl))) (dss_nil)) (dss_one (ds_ret (de_and (de_bi call_isi p_isi (by rfl) T.z_isinstance boot_isinstance (da_cons (de_var (pv 3)) (da_cons (de_tyN (by rfl) T.z_str boot_str) (da_nil)))) (de_and1 (de_or (de_cmp (o_eq hu64) p_eq (de_var (pv 3)) (de_str)) (de_or1 (de_cmp o_in p_in (de_var (pv 3)) (de_var (pv 1)))))))))))
theorem ok_fits_behind {P : Program} {w : World} {K : PySem.W.Frag} {mg : Str → Option Value} {base : Heap} (T : Top K mg) : Def P w K mg base "fits_behind" 4 2 [] none F_fits_behind :=
  def_mk (st := s_fits_behind) (N := ["thing", "ahead", "name", "caller", "talk"]) (ps := ["thing", "ahead"]) T.f_fits_behind sc_fits_behind (body_fits_behind T)
theorem body_first_misfit {P : Program} {w : World} {K : PySem.W.Frag} {mg : Str → Option Value} {base : Heap} (T : Top K mg) (f : Addr) (cdv : Value) (A : Around) (outer : List PySem.Env) (s : Shared) (H : Hp) (E : XK) (hgu : A.guards = some []) (hr : Room 4 (A.deeper (envOfC "first_misfit" (defScope s_first_misfit) s.heap.objs.size f cdv))) :
    DSs (cxOf (L2.CX P w) P w K mg base ["people", "ahead", "number", "thing"] "first_misfit" (defScope s_first_misfit) f cdv A outer s H E) (wE E) (defBody s_first_misfit) b_first_misfit := by
  have hu1 := room_1 hr
  have hu64 := room_64 hr
  have hu100 := room_100 hr
  exact dss_cons (ds_set (i := 1) sc_first_misfit.nd rfl (.inl rfl) (de_lst (dd_nil))) (dss_cons (ds_for (ix := [2, 3]) (passes_of rfl) rfl (di_enum0 (by rfl) T.z_enumerate (dd_cons (de_var (pv 0)) (dd_nil))) (dtg_tup rfl (dtgs_cons (dtg_name (i := 2) sc_first_misfit.nd rfl (.inl rfl) (by decide)) (dtgs_cons (dtg_name (i := 3) sc_first_misfit.nd rfl (.inl rfl) (by decide)) (dtgs_nil)))) (dss_cons (ds_if (dt_not (dt_val (de_call (ok_fits_behind T) hgu (hr.mono (by decide)) (takes_of rfl rfl rfl rfl) (by rfl) (dg_v (de_var (pv 3)) (dg_bor (de_var (pv 1)) (dg_nil)))))) (dss_one (ds_ret (de_var (pv 2)))) (dss_nil)) (dss_one (ds_expr (de_append (pv 1) (de_ix (i_ix hu1) p_ix (de_var (pv 3)) (de_int))))))) (dss_one (ds_ret (de_non))))
theorem ok_first_misfit {P : Program} {w : World} {K : PySem.W.Frag} {mg : Str → Option Value} {base : Heap} (T : Top K mg) : Def P w K mg base "first_misfit" 5 1 [] none F_first_misfit :=
  def_mk (st := s_first_misfit) (N := ["people", "ahead", "number", "thing"]) (ps := ["people"]) T.f_first_misfit sc_first_misfit (body_first_misfit T)
theorem body_is_wait {P : Program} {w : World} {K : PySem.W.Frag} {mg : Str → Option Value} {base : Heap} (T : Top K mg) (f : Addr) (cdv : Value) (A : Around) (outer : List PySem.Env) (s : Shared) (H : Hp) (E : XK) (hgu : A.guards = some []) (hr : Room 2 (A.deeper (envOfC "is_wait" (defScope s_is_wait) s.heap.objs.size f cdv))) :
    DSs (cxOf (L2.CX P w) P w K mg base ["thing"] "is_wait" (defScope s_is_wait) f cdv A outer s H E) (wE E) (defBody s_is_wait) b_is_wait := by
  have hu1 := room_1 hr
  have hu64 := room_64 hr
  have hu100 := room_100 hr
  exact dss_one (ds_ret (de_call (ok_is_among T) hgu (hr.mono (by decide)) (takes_of rfl rfl rfl rfl) (by rfl) (dg_v (de_var (pv 0)) (dg_v (de_int) (dg_v (de_gc (by rfl) T.c_LONGEST_CALL fun _ => .int _) (dg_nil))))))
theorem ok_is_wait {P : Program} {w : World} {K : PySem.W.Frag} {mg : Str → Option Value} {base : Heap} (T : Top K mg) : Def P w K mg base "is_wait" 3 1 [] none F_is_wait :=
  def_mk (st := s_is_wait) (N := ["thing"]) (ps := ["thing"]) T.f_is_wait sc_is_wait (body_is_wait T)
theorem body_is_deep {P : Program} {w : World} {K : PySem.W.Frag} {mg : Str → Option Value} {base : Heap} (T : Top K mg) (f : Addr) (cdv : Value) (A : Around) (outer : List PySem.Env) (s : Shared) (H : Hp) (E : XK) (hgu : A.guards = some []) (hr : Room 2 (A.deeper (envOfC "is_deep" (defScope s_is_deep) s.heap.objs.size f cdv))) :
    DSs (cxOf (L2.CX P w) P w K mg base ["thing"] "is_deep" (defScope s_is_deep) f cdv A outer s H E) (wE E) (defBody s_is_deep) b_is_deep := by
  have hu1 := room_1 hr
  have hu64 := room_64 hr
  have hu100 := room_100 hr
  exact dss_one (ds_ret (de_call (ok_is_among T) hgu (hr.mono (by decide)) (takes_of rfl rfl rfl rfl) (by rfl) (dg_v (de_var (pv 0)) (dg_v (de_int) (dg_v (de_gc (by rfl) T.c_DEEPEST fun _ => .int _) (dg_nil))))))
theorem ok_is_deep {P : Program} {w : World} {K : PySem.W.Frag} {mg : Str → Option Value} {base : Heap} (T : Top K mg) : Def P w K mg base "is_deep" 3 1 [] none F_is_deep :=
  def_mk (st := s_is_deep) (N := ["thing"]) (ps := ["thing"]) T.f_is_deep sc_is_deep (body_is_deep T)
theorem body_tree_fault {P : Program} {w : World} {K : PySem.W.Frag} {mg : Str → Option Value} {base : Heap} (T : Top K mg) (f : Addr) (cdv : Value) (A : Around) (outer : List PySem.Env) (s : Shared) (H : Hp) (E : XK) (hgu : A.guards = some []) (hr : Room 5 (A.deeper (envOfC "tree_fault" (defScope s_tree_fault) s.heap.objs.size f cdv))) :
    DSs (cxOf (L2.CX P w) P w K mg base ["thing", "wait", "deep", "people", "number"] "tree_fault" (defScope s_tree_fault) f cdv A outer s H E) (wE E) (defBody s_tree_fault) b_tree_fault := by
  have hu1 := room_1 hr
  have hu64 := room_64 hr
  have hu100 := room_100 hr
  exact dss_cons (ds_if (dt_w (dw_or (dt_not (dt_val (de_bi call_isi p_isi (by rfl) T.z_isinstance boot_isinstance (da_cons (de_var (pv 0)) (da_cons (de_tyN (by rfl) T.z_tuple boot_tuple) (da_nil)))))) (dw_or1 (dt_cmp (o_ne hu64) p_ne (de_bi call_len p_len (by rfl) T.z_len boot_len (da_cons (de_var (pv 0)) (da_nil))) (de_int))))) (dss_one (ds_ret (de_tup (dd_cons (de_non) (dd_cons (de_non) (dd_nil)))))) (dss_nil)) (dss_cons (ds_asg (ix := [1, 2, 3]) (de_var (pv 0)) (dtg_tup rfl (dtgs_cons (dtg_name (i := 1) sc_tree_fault.nd rfl (.inl rfl) (by decide)) (dtgs_cons (dtg_name (i := 2) sc_tree_fault.nd rfl (.inl rfl) (by decide)) (dtgs_cons (dtg_name (i := 3) sc_tree_fault.nd rfl (.inl rfl) (by decide)) (dtgs_nil)))))) (dss_cons (ds_if (dt_not (dt_val (de_call (ok_is_wait T) hgu (hr.mono (by decide)) (takes_of rfl rfl rfl rfl) (by rfl) (dg_v (de_var (pv 1)) (dg_nil))))) (dss_one (ds_ret (de_tup (dd_cons (de_str) (dd_cons (de_non) (dd_nil)))))) (dss_nil)) (dss_cons (ds_if (dt_not (dt_val (de_call (ok_is_deep T) hgu (hr.mono (by decide)) (takes_of rfl rfl rfl rfl) (by rfl) (dg_v (de_var (pv 2)) (dg_nil))))) (dss_one (ds_ret (de_tup (dd_cons (de_str) (dd_cons (de_non) (dd_nil)))))) (dss_nil)) (dss_cons (ds_if (dt_w (dw_or (dt_not (dt_val (de_bi call_isi p_isi (by rfl) T.z_isinstance boot_isinstance (da_cons (de_var (pv 3)) (da_cons (de_tyN (by rfl) T.z_tuple boot_tuple) (da_nil)))))) (dw_or1 (dt_cmp o_gt p_gt (de_bi call_len p_len (by rfl) T.z_len boot_len (da_cons (de_var (pv 3)) (da_nil))) (de_gc (by rfl) T.c_MOST_PEOPLE fun _ => .int _))))) (dss_one (ds_ret (de_tup (dd_cons (de_str) (dd_cons (de_non) (dd_nil)))))) (dss_nil)) (dss_cons (ds_set (i := 4) sc_tree_fault.nd rfl (.inl rfl) (de_call (ok_first_misfit T) hgu (hr.mono (by decide)) (takes_of rfl rfl rfl rfl) (by rfl) (dg_v (de_var (pv 3)) (dg_nil)))) (dss_one (ds_ret (de_if (dt_cmp op_isN p_is (de_var (pv 4)) (de_non)) (de_non) (de_tup (dd_cons (de_str) (dd_cons (de_var (pv 4)) (dd_nil))))))))))))
theorem ok_tree_fault {P : Program} {w : World} {K : PySem.W.Frag} {mg : Str → Option Value} {base : Heap} (T : Top K mg) : Def P w K mg base "tree_fault" 6 1 [] none F_tree_fault :=
  def_mk (st := s_tree_fault) (N := ["thing", "wait", "deep", "people", "number"]) (ps := ["thing"]) T.f_tree_fault sc_tree_fault (body_tree_fault T)
theorem body_need_tree {P : Program} {w : World} {K : PySem.W.Frag} {mg : Str → Option Value} {base : Heap} (T : Top K mg) (f : Addr) (cdv : Value) (A : Around) (outer : List PySem.Env) (s : Shared) (H : Hp) (E : XK) (hgu : A.guards = some []) (hr : Room 6 (A.deeper (envOfC "need_tree" (defScope s_need_tree) s.heap.objs.size f cdv))) :
    DSs (cxOf (L2.CX P w) P w K mg base ["tree", "fault", "part", "number"] "need_tree" (defScope s_need_tree) f cdv A outer s H E) (wE E) (defBody s_need_tree) b_need_tree := by
  have hu1 := room_1 hr
  have hu64 := room_64 hr
  have hu100 := room_100 hr
  exact dss_cons (ds_set (i := 1) sc_need_tree.nd rfl (.inl rfl) (de_call (ok_tree_fault T) hgu (hr.mono (by decide)) (takes_of rfl rfl rfl rfl) (by rfl) (dg_v (de_var (pv 0)) (dg_nil)))) (dss_one (ds_if (dt_cmp op_notN p_isNot (de_var (pv 1)) (de_non)) (dss_cons (ds_asg (ix := [2, 3]) (de_var (pv 1)) (dtg_tup rfl (dtgs_cons (dtg_name (i := 2) sc_need_tree.nd rfl (.inl rfl) (by decide)) (dtgs_cons (dtg_name (i := 3) sc_need_tree.nd rfl (.inl rfl) (by decide)) (dtgs_nil))))) (dss_one (ds_never ps_never))) (dss_nil)))
theorem ok_need_tree {P : Program} {w : World} {K : PySem.W.Frag} {mg : Str → Option Value} {base : Heap} (T : Top K mg) : Def P w K mg base "need_tree" 7 1 [] none F_need_tree :=
  def_mk (st := s_need_tree) (N := ["tree", "fault", "part", "number"]) (ps := ["tree"]) T.f_need_tree sc_need_tree (body_need_tree T)
theorem body_bell_or_name {P : Program} {w : World} {K : PySem.W.Frag} {mg : Str → Option Value} {base : Heap} (T : Top K mg) (f : Addr) (cdv : Value) (A : Around) (outer : List PySem.Env) (s : Shared) (H : Hp) (E : XK) (hgu : A.guards = some []) (hr : Room 0 (A.deeper (envOfC "bell_or_name" (defScope s_bell_or_name) s.heap.objs.size f cdv))) :
    DSs (cxOf (L2.CX P w) P w K mg base ["name"] "bell_or_name" (defScope s_bell_or_name) f cdv A outer s H E) (wE E) (defBody s_bell_or_name) b_bell_or_name := by
  have hu1 := room_1 hr
  have hu64 := room_64 hr
  have hu100 := room_100 hr
  exact dss_one (ds_ret (de_if (dt_cmp (o_eq hu64) p_eq (de_var (pv 0)) (de_str)) (de_gc (by rfl) T.c_BELL_WORD fun _ => .str _) (de_var (pv 0))))
theorem ok_bell_or_name {P : Program} {w : World} {K : PySem.W.Frag} {mg : Str → Option Value} {base : Heap} (T : Top K mg) : Def P w K mg base "bell_or_name" 1 1 [] none F_bell_or_name :=
  def_mk (st := s_bell_or_name) (N := ["name"]) (ps := ["name"]) T.f_bell_or_name sc_bell_or_name (body_bell_or_name T)
theorem body_tree_text {P : Program} {w : World} {K : PySem.W.Frag} {mg : Str → Option Value} {base : Heap} (T : Top K mg) (f : Addr) (cdv : Value) (A : Around) (outer : List PySem.Env) (s : Shared) (H : Hp) (E : XK) (hgu : A.guards = some []) (hr : Room 7 (A.deeper (envOfC "tree_text" (defScope s_tree_text) s.heap.objs.size f cdv))) :
    DSs (cxOf (L2.CX P w) P w K mg base ["tree", "wait", "deep", "people", "rows", "name", "caller", "talk"] "tree_text" (defScope s_tree_text) f cdv A outer s H E) (wE E) (defBody s_tree_text) b_tree_text := by
  have hu1 := room_1 hr
  have hu64 := room_64 hr
  have hu100 := room_100 hr
  exact dss_cons (ds_expr (de_call (ok_need_tree T) hgu (hr.mono (by decide)) (takes_of rfl rfl rfl rfl) (by rfl) (dg_v (de_var (pv 0)) (dg_nil)))) (dss_cons (ds_asg (ix := [1, 2, 3]) (de_var (pv 0)) (dtg_tup rfl (dtgs_cons (dtg_name (i := 1) sc_tree_text.nd rfl (.inl rfl) (by decide)) (dtgs_cons (dtg_name (i := 2) sc_tree_text.nd rfl (.inl rfl) (by decide)) (dtgs_cons (dtg_name (i := 3) sc_tree_text.nd rfl (.inl rfl) (by decide)) (dtgs_nil)))))) (dss_cons (ds_set (i := 4) sc_tree_text.nd rfl (.inl rfl) (de_lst (dd_cons (de_joined (.cons (de_str) (.cons (de_fmt (de_var (pv 1))) (.cons (de_str) (.cons (de_fmt (de_var (pv 2))) (.nil)))))) (dd_nil)))) (dss_cons (ds_for (ix := [5, 6, 7]) (passes_of rfl) rfl (di_seq (de_var (pv 3))) (dtg_tup rfl (dtgs_cons (dtg_name (i := 5) sc_tree_text.nd rfl (.inl rfl) (by decide)) (dtgs_cons (dtg_name (i := 6) sc_tree_text.nd rfl (.inl rfl) (by decide)) (dtgs_cons (dtg_name (i := 7) sc_tree_text.nd rfl (.inl rfl) (by decide)) (dtgs_nil))))) (dss_one (ds_expr (de_append (pv 4) (de_joined (.cons (de_fmt (de_var (pv 5))) (.cons (de_str) (.cons (de_fmt (de_call (ok_bell_or_name T) hgu (hr.mono (by decide)) (takes_of rfl rfl rfl rfl) (by rfl) (dg_v (de_var (pv 6)) (dg_nil)))) (.cons (de_str) (.cons (de_fmt (de_var (pv 7))) (.nil))))))))))) (dss_one (ds_ret (de_join (de_str) (de_var (pv 4))))))))
theorem ok_tree_text {P : Program} {w : World} {K : PySem.W.Frag} {mg : Str → Option Value} {base : Heap} (T : Top K mg) : Def P w K mg base "tree_text" 8 1 [] none F_tree_text :=
  def_mk (st := s_tree_text) (N := ["tree", "wait", "deep", "people", "rows", "name", "caller", "talk"]) (ps := ["tree"]) T.f_tree_text sc_tree_text (body_tree_text T)
theorem body_rows_of {P : Program} {w : World} {K : PySem.W.Frag} {mg : Str → Option Value} {base : Heap} (T : Top K mg) (f : Addr) (cdv : Value) (A : Around) (outer : List PySem.Env) (s : Shared) (H : Hp) (E : XK) (hgu : A.guards = some []) (hr : Room 0 (A.deeper (envOfC "rows_of" (defScope s_rows_of) s.heap.objs.size f cdv))) :
    DSs (cxOf (L2.CX P w) P w K mg base ["text"] "rows_of" (defScope s_rows_of) f cdv A outer s H E) (wE E) (defBody s_rows_of) b_rows_of := by
  have hu1 := room_1 hr
  have hu64 := room_64 hr
  have hu100 := room_100 hr
  exact dss_cons (ds_if (dt_not (dt_val (de_bi call_isi p_isi (by rfl) T.z_isinstance boot_isinstance (da_cons (de_var (pv 0)) (da_cons (de_tyN (by rfl) T.z_str boot_str) (da_nil)))))) (dss_one (ds_never ps_never)) (dss_nil)) (dss_one (ds_ret (de_split (de_var (pv 0)) (de_str))))
theorem ok_rows_of {P : Program} {w : World} {K : PySem.W.Frag} {mg : Str → Option Value} {base : Heap} (T : Top K mg) : Def P w K mg base "rows_of" 1 1 [] none F_rows_of :=
  def_mk (st := s_rows_of) (N := ["text"]) (ps := ["text"]) T.f_rows_of sc_rows_of (body_rows_of T)
theorem body_words_of {P : Program} {w : World} {K : PySem.W.Frag} {mg : Str → Option Value} {base : Heap} (T : Top K mg) (f : Addr) (cdv : Value) (A : Around) (outer : List PySem.Env) (s : Shared) (H : Hp) (E : XK) (hgu : A.guards = some []) (hr : Room 0 (A.deeper (envOfC "words_of" (defScope s_words_of) s.heap.objs.size f cdv))) :
    DSs (cxOf (L2.CX P w) P w K mg base ["row", "words"] "words_of" (defScope s_words_of) f cdv A outer s H E) (wE E) (defBody s_words_of) b_words_of := by
  have hu1 := room_1 hr
  have hu64 := room_64 hr
  have hu100 := room_100 hr
  exact dss_cons (ds_if (dt_not (dt_val (de_bi call_isi p_isi (by rfl) T.z_isinstance boot_isinstance (da_cons (de_var (pv 0)) (da_cons (de_tyN (by rfl) T.z_str boot_str) (da_nil)))))) (dss_one (ds_ret (de_non))) (dss_nil)) (dss_cons (ds_set (i := 1) sc_words_of.nd rfl (.inl rfl) (de_split (de_var (pv 0)) (de_str))) (dss_one (ds_ret (de_if (dt_cmp o_in p_in (de_str) (de_var (pv 1))) (de_non) (de_var (pv 1))))))
theorem ok_words_of {P : Program} {w : World} {K : PySem.W.Frag} {mg : Str → Option Value} {base : Heap} (T : Top K mg) : Def P w K mg base "words_of" 1 1 [] none F_words_of :=
  def_mk (st := s_words_of) (N := ["row", "words"]) (ps := ["row"]) T.f_words_of sc_words_of (body_words_of T)
theorem body_words_in {P : Program} {w : World} {K : PySem.W.Frag} {mg : Str → Option Value} {base : Heap} (T : Top K mg) (f : Addr) (cdv : Value) (A : Around) (outer : List PySem.Env) (s : Shared) (H : Hp) (E : XK) (hgu : A.guards = some []) (hr : Room 1 (A.deeper (envOfC "words_in" (defScope s_words_in) s.heap.objs.size f cdv))) :
    DSs (cxOf (L2.CX P w) P w K mg base ["number", "row", "words"] "words_in" (defScope s_words_in) f cdv A outer s H E) (wE E) (defBody s_words_in) b_words_in := by
  have hu1 := room_1 hr
  have hu64 := room_64 hr
  have hu100 := room_100 hr
  exact dss_cons (ds_set (i := 2) sc_words_in.nd rfl (.inl rfl) (de_call (ok_words_of T) hgu (hr.mono (by decide)) (takes_of rfl rfl rfl rfl) (by rfl) (dg_v (de_var (pv 1)) (dg_nil)))) (dss_cons (ds_if (dt_cmp op_isN p_is (de_var (pv 2)) (de_non)) (dss_one (ds_never ps_never)) (dss_nil)) (dss_one (ds_ret (de_var (pv 2)))))
theorem ok_words_in {P : Program} {w : World} {K : PySem.W.Frag} {mg : Str → Option Value} {base : Heap} (T : Top K mg) : Def P w K mg base "words_in" 2 2 [] none F_words_in :=
  def_mk (st := s_words_in) (N := ["number", "row", "words"]) (ps := ["number", "row"]) T.f_words_in sc_words_in (body_words_in T)
theorem body_need_words {P : Program} {w : World} {K : PySem.W.Frag} {mg : Str → Option Value} {base : Heap} (T : Top K mg) (f : Addr) (cdv : Value) (A : Around) (outer : List PySem.Env) (s : Shared) (H : Hp) (E : XK) (hgu : A.guards = some []) (hr : Room 0 (A.deeper (envOfC "need_words" (defScope s_need_words) s.heap.objs.size f cdv))) :
    DSs (cxOf (L2.CX P w) P w K mg base ["number", "fits", "many", "place", "fit"] "need_words" (defScope s_need_words) f cdv A outer s H E) (wE E) (defBody s_need_words) b_need_words := by
  have hu1 := room_1 hr
  have hu64 := room_64 hr
  have hu100 := room_100 hr
  exact dss_cons (ds_for (ix := [3, 4]) (passes_of rfl) rfl (di_enumK (k := 1) (by decide) (by decide) (by rfl) T.z_enumerate (dd_cons (de_var (pv 1)) (dd_nil))) (dtg_tup rfl (dtgs_cons (dtg_name (i := 3) sc_need_words.nd rfl (.inl rfl) (by decide)) (dtgs_cons (dtg_name (i := 4) sc_need_words.nd rfl (.inl rfl) (by decide)) (dtgs_nil)))) (dss_one (ds_if (dt_not (dt_val (de_var (pv 4)))) (dss_one (ds_never ps_never)) (dss_nil)))) (dss_one (ds_if (dt_cmp o_lt p_lt (de_bi call_len p_len (by rfl) T.z_len boot_len (da_cons (de_var (pv 1)) (da_nil))) (de_var (pv 2))) (dss_one (ds_never ps_never)) (dss_nil)))
theorem ok_need_words {P : Program} {w : World} {K : PySem.W.Frag} {mg : Str → Option Value} {base : Heap} (T : Top K mg) : Def P w K mg base "need_words" 1 3 [] none F_need_words :=
  def_mk (st := s_need_words) (N := ["number", "fits", "many", "place", "fit"]) (ps := ["number", "fits", "many"]) T.f_need_words sc_need_words (body_need_words T)
theorem body_are_figures {P : Program} {w : World} {K : PySem.W.Frag} {mg : Str → Option Value} {base : Heap} (T : Top K mg) (f : Addr) (cdv : Value) (A : Around) (outer : List PySem.Env) (s : Shared) (H : Hp) (E : XK) (hgu : A.guards = some []) (hr : Room 0 (A.deeper (envOfC "are_figures" (defScope s_are_figures) s.heap.objs.size f cdv))) :
    DSs (cxOf (L2.CX P w) P w K mg base ["text", "sign"] "are_figures" (defScope s_are_figures) f cdv A outer s H E) (wE E) (defBody s_are_figures) b_are_figures := by
  have hu1 := room_1 hr
  have hu64 := room_64 hr
  have hu100 := room_100 hr
  exact dss_one (ds_ret (de_bi (cr_all rfl) p_all (by rfl) T.z_all boot_all (da_cons (de_lc (own := [("sign", 1)]) rfl sc_are_figures.nd (di_seq (de_var (pv 0))) (blkOk_by (N := ["text", "sign"]) (sc := defScope s_are_figures) (by decide +kernel)) (fun _ _ _ _ _ => dtg_name (i := 1) sc_are_figures.nd rfl (.inl rfl) (by decide)) (fun _ _ _ _ _ => pts_yes) (fun _ _ _ _ _ => de_chain o_le p_le o_le p_le (de_str) (de_var (pv 1)) (de_str))) (da_nil))))
theorem ok_are_figures {P : Program} {w : World} {K : PySem.W.Frag} {mg : Str → Option Value} {base : Heap} (T : Top K mg) : Def P w K mg base "are_figures" 1 1 [] none F_are_figures :=
  def_mk (st := s_are_figures) (N := ["text", "sign"]) (ps := ["text"]) T.f_are_figures sc_are_figures (body_are_figures T)
theorem body_number_of {P : Program} {w : World} {K : PySem.W.Frag} {mg : Str → Option Value} {base : Heap} (T : Top K mg) (f : Addr) (cdv : Value) (A : Around) (outer : List PySem.Env) (s : Shared) (H : Hp) (E : XK) (hgu : A.guards = some []) (hr : Room 1 (A.deeper (envOfC "number_of" (defScope s_number_of) s.heap.objs.size f cdv))) :
    DSs (cxOf (L2.CX P w) P w K mg base ["word"] "number_of" (defScope s_number_of) f cdv A outer s H E) (wE E) (defBody s_number_of) b_number_of := by
  have hu1 := room_1 hr
  have hu64 := room_64 hr
  have hu100 := room_100 hr
  exact dss_cons (ds_if (dt_w (dw_or (dt_not (dt_val (de_bi call_isi p_isi (by rfl) T.z_isinstance boot_isinstance (da_cons (de_var (pv 0)) (da_cons (de_tyN (by rfl) T.z_str boot_str) (da_nil)))))) (dw_or1 (dt_not (dt_chain o_le p_le o_le p_le (de_int) (de_bi call_len p_len (by rfl) T.z_len boot_len (da_cons (de_var (pv 0)) (da_nil))) (de_gc (by rfl) T.c_MOST_FIGURES fun _ => .int _)))))) (dss_one (ds_ret (de_non))) (dss_nil)) (dss_cons (ds_if (dt_w (dw_or (dt_not (dt_val (de_call (ok_are_figures T) hgu (hr.mono (by decide)) (takes_of rfl rfl rfl rfl) (by rfl) (dg_v (de_var (pv 0)) (dg_nil))))) (dw_or1 (dt_w (dw_and (dt_cmp (o_eq hu64) p_eq (de_ix (i_ix hu1) p_ix (de_var (pv 0)) (de_int)) (de_str)) (dw_and1 (dt_cmp (o_ne hu64) p_ne (de_var (pv 0)) (de_str)))))))) (dss_one (ds_ret (de_non))) (dss_nil)) (dss_one (ds_ret (de_ty call_int_str p_int (by rfl) T.z_int boot_int (da_cons (de_var (pv 0)) (da_nil))))))
theorem ok_number_of {P : Program} {w : World} {K : PySem.W.Frag} {mg : Str → Option Value} {base : Heap} (T : Top K mg) : Def P w K mg base "number_of" 2 1 [] none F_number_of :=
  def_mk (st := s_number_of) (N := ["word"]) (ps := ["word"]) T.f_number_of sc_number_of (body_number_of T)
theorem body_head_word_fits {P : Program} {w : World} {K : PySem.W.Frag} {mg : Str → Option Value} {base : Heap} (T : Top K mg) (f : Addr) (cdv : Value) (A : Around) (outer : List PySem.Env) (s : Shared) (H : Hp) (E : XK) (hgu : A.guards = some []) (hr : Room 3 (A.deeper (envOfC "head_word_fits" (defScope s_head_word_fits) s.heap.objs.size f cdv))) :
    DSs (cxOf (L2.CX P w) P w K mg base ["place", "word", "deepest"] "head_word_fits" (defScope s_head_word_fits) f cdv A outer s H E) (wE E) (defBody s_head_word_fits) b_head_word_fits := by
  have hu1 := room_1 hr
  have hu64 := room_64 hr
  have hu100 := room_100 hr
  exact dss_cons (ds_if (dt_cmp (o_eq hu64) p_eq (de_var (pv 0)) (de_int)) (dss_one (ds_ret (de_cmp (o_eq hu64) p_eq (de_var (pv 1)) (de_str)))) (dss_nil)) (dss_cons (ds_if (dt_cmp (o_eq hu64) p_eq (de_var (pv 0)) (de_int)) (dss_one (ds_ret (de_call (ok_is_wait T) hgu (hr.mono (by decide)) (takes_of rfl rfl rfl rfl) (by rfl) (dg_v (de_call (ok_number_of T) hgu (hr.mono (by decide)) (takes_of rfl rfl rfl rfl) (by rfl) (dg_v (de_var (pv 1)) (dg_nil))) (dg_nil))))) (dss_nil)) (dss_one (ds_ret (de_and (de_cmp (o_eq hu64) p_eq (de_var (pv 0)) (de_int)) (de_and1 (de_call (ok_is_among T) hgu (hr.mono (by decide)) (takes_of rfl rfl rfl rfl) (by rfl) (dg_v (de_call (ok_number_of T) hgu (hr.mono (by decide)) (takes_of rfl rfl rfl rfl) (by rfl) (dg_v (de_var (pv 1)) (dg_nil))) (dg_v (de_int) (dg_v (de_var (pv 2)) (dg_nil))))))))))
theorem ok_head_word_fits {P : Program} {w : World} {K : PySem.W.Frag} {mg : Str → Option Value} {base : Heap} (T : Top K mg) : Def P w K mg base "head_word_fits" 4 3 [] none F_head_word_fits :=
  def_mk (st := s_head_word_fits) (N := ["place", "word", "deepest"]) (ps := ["place", "word", "deepest"]) T.f_head_word_fits sc_head_word_fits (body_head_word_fits T)
theorem body_read_head {P : Program} {w : World} {K : PySem.W.Frag} {mg : Str → Option Value} {base : Heap} (T : Top K mg) (f : Addr) (cdv : Value) (A : Around) (outer : List PySem.Env) (s : Shared) (H : Hp) (E : XK) (hgu : A.guards = some []) (hr : Room 4 (A.deeper (envOfC "read_head" (defScope s_read_head) s.heap.objs.size f cdv))) :
    DSs (cxOf (L2.CX P w) P w K mg base ["number", "row", "deepest", "words", "place", "word"] "read_head" (defScope s_read_head) f cdv A outer s H E) (wE E) (defBody s_read_head) b_read_head := by
  have hu1 := room_1 hr
  have hu64 := room_64 hr
  have hu100 := room_100 hr
  exact dss_cons (ds_set (i := 3) sc_read_head.nd rfl (.inl rfl) (de_call (ok_words_in T) hgu (hr.mono (by decide)) (takes_of rfl rfl rfl rfl) (by rfl) (dg_v (de_var (pv 0)) (dg_v (de_var (pv 1)) (dg_nil))))) (dss_cons (ds_expr (de_call (ok_need_words T) hgu (hr.mono (by decide)) (takes_of rfl rfl rfl rfl) (by rfl) (dg_v (de_var (pv 0)) (dg_v (de_lc (own := [("place", 4), ("word", 5)]) rfl sc_read_head.nd (di_enumK (k := 1) (by decide) (by decide) (by rfl) T.z_enumerate (dd_cons (de_var (pv 3)) (dd_nil))) (blkOk_by (N := ["number", "row", "deepest", "words", "place", "word"]) (sc := defScope s_read_head) (by decide +kernel)) (fun _ _ _ _ _ => dtg_tup rfl (dtgs_cons (dtg_name (i := 4) sc_read_head.nd rfl (.inl rfl) (by decide)) (dtgs_cons (dtg_name (i := 5) sc_read_head.nd rfl (.inl rfl) (by decide)) (dtgs_nil)))) (fun _ _ _ _ _ => pts_yes) (fun _ _ _ _ _ => de_call (ok_head_word_fits T) hgu (hr.mono (by decide)) DL.takes0 (by rfl) (dg_v (de_var (pv 4)) (dg_v (de_var (pv 5)) (dg_v (de_var (pv 2)) (dg_nil)))))) (dg_v (de_int) (dg_nil)))))) (dss_one (ds_ret (de_tup (dd_cons (de_call (ok_number_of T) hgu (hr.mono (by decide)) (takes_of rfl rfl rfl rfl) (by rfl) (dg_v (de_ix (i_ix hu1) p_ix (de_var (pv 3)) (de_int)) (dg_nil))) (dd_cons (de_call (ok_number_of T) hgu (hr.mono (by decide)) (takes_of rfl rfl rfl rfl) (by rfl) (dg_v (de_ix (i_ix hu1) p_ix (de_var (pv 3)) (de_int)) (dg_nil))) (dd_nil)))))))
theorem ok_read_head {P : Program} {w : World} {K : PySem.W.Frag} {mg : Str → Option Value} {base : Heap} (T : Top K mg) : Def P w K mg base "read_head" 5 3 [] none F_read_head :=
  def_mk (st := s_read_head) (N := ["number", "row", "deepest", "words", "place", "word"]) (ps := ["number", "row", "deepest"]) T.f_read_head sc_read_head (body_read_head T)
theorem body_person_word_fits {P : Program} {w : World} {K : PySem.W.Frag} {mg : Str → Option Value} {base : Heap} (T : Top K mg) (f : Addr) (cdv : Value) (A : Around) (outer : List PySem.Env) (s : Shared) (H : Hp) (E : XK) (hgu : A.guards = some []) (hr : Room 3 (A.deeper (envOfC "person_word_fits" (defScope s_person_word_fits) s.heap.objs.size f cdv))) :
    DSs (cxOf (L2.CX P w) P w K mg base ["place", "word", "ahead"] "person_word_fits" (defScope s_person_word_fits) f cdv A outer s H E) (wE E) (defBody s_person_word_fits) b_person_word_fits := by
  have hu1 := room_1 hr
  have hu64 := room_64 hr
  have hu100 := room_100 hr
  exact dss_cons (ds_if (dt_cmp (o_eq hu64) p_eq (de_var (pv 0)) (de_int)) (dss_one (ds_ret (de_and (de_call (ok_is_name T) hgu (hr.mono (by decide)) (takes_of rfl rfl rfl rfl) (by rfl) (dg_v (de_var (pv 1)) (dg_nil))) (de_and1 (de_cmp o_notIn p_notIn (de_var (pv 1)) (de_var (pv 2))))))) (dss_nil)) (dss_cons (ds_if (dt_cmp (o_eq hu64) p_eq (de_var (pv 0)) (de_int)) (dss_one (ds_ret (de_or (de_cmp (o_eq hu64) p_eq (de_var (pv 1)) (de_gc (by rfl) T.c_BELL_WORD fun _ => .str _)) (de_or1 (de_cmp o_in p_in (de_var (pv 1)) (de_var (pv 2))))))) (dss_nil)) (dss_one (ds_ret (de_and (de_cmp (o_eq hu64) p_eq (de_var (pv 0)) (de_int)) (de_and1 (de_call (ok_is_talk T) hgu (hr.mono (by decide)) (takes_of rfl rfl rfl rfl) (by rfl) (dg_v (de_call (ok_number_of T) hgu (hr.mono (by decide)) (takes_of rfl rfl rfl rfl) (by rfl) (dg_v (de_var (pv 1)) (dg_nil))) (dg_nil))))))))
theorem ok_person_word_fits {P : Program} {w : World} {K : PySem.W.Frag} {mg : Str → Option Value} {base : Heap} (T : Top K mg) : Def P w K mg base "person_word_fits" 4 3 [] none F_person_word_fits :=
  def_mk (st := s_person_word_fits) (N := ["place", "word", "ahead"]) (ps := ["place", "word", "ahead"]) T.f_person_word_fits sc_person_word_fits (body_person_word_fits T)
theorem body_read_person {P : Program} {w : World} {K : PySem.W.Frag} {mg : Str → Option Value} {base : Heap} (T : Top K mg) (f : Addr) (cdv : Value) (A : Around) (outer : List PySem.Env) (s : Shared) (H : Hp) (E : XK) (hgu : A.guards = some []) (hr : Room 4 (A.deeper (envOfC "read_person" (defScope s_read_person) s.heap.objs.size f cdv))) :
    DSs (cxOf (L2.CX P w) P w K mg base ["number", "row", "people", "words", "ahead", "name", "caller_word", "talk_word", "caller", "person", "place", "word"] "read_person" (defScope s_read_person) f cdv A outer s H E) (wE E) (defBody s_read_person) b_read_person := by
  have hu1 := room_1 hr
  have hu64 := room_64 hr
  have hu100 := room_100 hr
  exact dss_cons (ds_if (dt_cmp (o_eq hu64) p_eq (de_bi call_len p_len (by rfl) T.z_len boot_len (da_cons (de_var (pv 2)) (da_nil))) (de_gc (by rfl) T.c_MOST_PEOPLE fun _ => .int _)) (dss_one (ds_never ps_never)) (dss_nil)) (dss_cons (ds_set (i := 3) sc_read_person.nd rfl (.inl rfl) (de_call (ok_words_in T) hgu (hr.mono (by decide)) (takes_of rfl rfl rfl rfl) (by rfl) (dg_v (de_var (pv 0)) (dg_v (de_var (pv 1)) (dg_nil))))) (dss_cons (ds_set (i := 4) sc_read_person.nd rfl (.inr rfl) (de_lc (own := [("person", 9)]) rfl sc_read_person.nd (di_seq (de_var (pv 2))) (blkOk_by (N := ["number", "row", "people", "words", "ahead", "name", "caller_word", "talk_word", "caller", "person", "place", "word"]) (sc := defScope s_read_person) (by decide +kernel)) (fun _ _ _ _ _ => dtg_name (i := 9) sc_read_person.nd rfl (.inl rfl) (by decide)) (fun _ _ _ _ _ => pts_yes) (fun _ _ _ _ _ => de_ix (i_ix hu1) p_ix (de_var (pv 9)) (de_int)))) (dss_cons (ds_expr (de_call (ok_need_words T) hgu (hr.mono (by decide)) (takes_of rfl rfl rfl rfl) (by rfl) (dg_v (de_var (pv 0)) (dg_v (de_lc (own := [("place", 10), ("word", 11)]) rfl sc_read_person.nd (di_enumK (k := 1) (by decide) (by decide) (by rfl) T.z_enumerate (dd_cons (de_var (pv 3)) (dd_nil))) (blkOk_by (N := ["number", "row", "people", "words", "ahead", "name", "caller_word", "talk_word", "caller", "person", "place", "word"]) (sc := defScope s_read_person) (by decide +kernel)) (fun _ _ _ _ _ => dtg_tup rfl (dtgs_cons (dtg_name (i := 10) sc_read_person.nd rfl (.inl rfl) (by decide)) (dtgs_cons (dtg_name (i := 11) sc_read_person.nd rfl (.inl rfl) (by decide)) (dtgs_nil)))) (fun _ _ _ _ _ => pts_yes) (fun _ _ _ _ _ => de_call (ok_person_word_fits T) hgu (hr.mono (by decide)) DL.takes0 (by rfl) (dg_v (de_var (pv 10)) (dg_v (de_var (pv 11)) (dg_v (de_var (pv 4)) (dg_nil)))))) (dg_v (de_int) (dg_nil)))))) (dss_cons (ds_asg (ix := [5, 6, 7]) (de_var (pv 3)) (dtg_tup rfl (dtgs_cons (dtg_name (i := 5) sc_read_person.nd rfl (.inl rfl) (by decide)) (dtgs_cons (dtg_name (i := 6) sc_read_person.nd rfl (.inl rfl) (by decide)) (dtgs_cons (dtg_name (i := 7) sc_read_person.nd rfl (.inl rfl) (by decide)) (dtgs_nil)))))) (dss_cons (ds_set (i := 8) sc_read_person.nd rfl (.inl rfl) (de_if (dt_cmp (o_eq hu64) p_eq (de_var (pv 6)) (de_gc (by rfl) T.c_BELL_WORD fun _ => .str _)) (de_str) (de_var (pv 6)))) (dss_one (ds_ret (de_tup (dd_cons (de_var (pv 5)) (dd_cons (de_var (pv 8)) (dd_cons (de_call (ok_number_of T) hgu (hr.mono (by decide)) (takes_of rfl rfl rfl rfl) (by rfl) (dg_v (de_var (pv 7)) (dg_nil))) (dd_nil))))))))))))
theorem ok_read_person {P : Program} {w : World} {K : PySem.W.Frag} {mg : Str → Option Value} {base : Heap} (T : Top K mg) : Def P w K mg base "read_person" 5 3 [] none F_read_person :=
  def_mk (st := s_read_person) (N := ["number", "row", "people", "words", "ahead", "name", "caller_word", "talk_word", "caller", "person", "place", "word"]) (ps := ["number", "row", "people"]) T.f_read_person sc_read_person (body_read_person T)
theorem body_read_tree {P : Program} {w : World} {K : PySem.W.Frag} {mg : Str → Option Value} {base : Heap} (T : Top K mg) (f : Addr) (cdv : Value) (A : Around) (outer : List PySem.Env) (s : Shared) (H : Hp) (E : XK) (hgu : A.guards = some []) (hr : Room 5 (A.deeper (envOfC "read_tree" (defScope s_read_tree) s.heap.objs.size f cdv))) :
    DSs (cxOf (L2.CX P w) P w K mg base ["text", "rows", "wait", "deep", "people", "number", "row"] "read_tree" (defScope s_read_tree) f cdv A outer s H E) (wE E) (defBody s_read_tree) b_read_tree := by
  have hu1 := room_1 hr
  have hu64 := room_64 hr
  have hu100 := room_100 hr
  exact dss_cons (ds_set (i := 1) sc_read_tree.nd rfl (.inl rfl) (de_call (ok_rows_of T) hgu (hr.mono (by decide)) (takes_of rfl rfl rfl rfl) (by rfl) (dg_v (de_var (pv 0)) (dg_nil)))) (dss_cons (ds_asg (ix := [2, 3]) (de_call (ok_read_head T) hgu (hr.mono (by decide)) (takes_of rfl rfl rfl rfl) (by rfl) (dg_v (de_int) (dg_v (de_ix (i_ix hu1) p_ix (de_var (pv 1)) (de_int)) (dg_v (de_gc (by rfl) T.c_DEEPEST fun _ => .int _) (dg_nil))))) (dtg_tup rfl (dtgs_cons (dtg_name (i := 2) sc_read_tree.nd rfl (.inl rfl) (by decide)) (dtgs_cons (dtg_name (i := 3) sc_read_tree.nd rfl (.inl rfl) (by decide)) (dtgs_nil))))) (dss_cons (ds_set (i := 4) sc_read_tree.nd rfl (.inl rfl) (de_lst (dd_nil))) (dss_cons (ds_for (ix := [5, 6]) (passes_of rfl) rfl (di_enumK (k := 2) (by decide) (by decide) (by rfl) T.z_enumerate (dd_cons (de_slice (de_var (pv 1)) (do_some (de_int)) do_none) (dd_nil))) (dtg_tup rfl (dtgs_cons (dtg_name (i := 5) sc_read_tree.nd rfl (.inl rfl) (by decide)) (dtgs_cons (dtg_name (i := 6) sc_read_tree.nd rfl (.inl rfl) (by decide)) (dtgs_nil)))) (dss_one (ds_expr (de_append (pv 4) (de_call (ok_read_person T) hgu (hr.mono (by decide)) (takes_of rfl rfl rfl rfl) (by rfl) (dg_v (de_var (pv 5)) (dg_v (de_var (pv 6)) (dg_bor (de_var (pv 4)) (dg_nil))))))))) (dss_one (ds_ret (de_tup (dd_cons (de_var (pv 2)) (dd_cons (de_var (pv 3)) (dd_cons (de_ty call_tuple_of p_tuple (by rfl) T.z_tuple boot_tuple (da_cons (de_var (pv 4)) (da_nil))) (dd_nil))))))))))
theorem ok_read_tree {P : Program} {w : World} {K : PySem.W.Frag} {mg : Str → Option Value} {base : Heap} (T : Top K mg) : Def P w K mg base "read_tree" 6 1 [] none F_read_tree :=
  def_mk (st := s_read_tree) (N := ["text", "rows", "wait", "deep", "people", "number", "row"]) (ps := ["text"]) T.f_read_tree sc_read_tree (body_read_tree T)
theorem body__law_right {P : Program} {w : World} {K : PySem.W.Frag} {mg : Str → Option Value} {base : Heap} (T : Top K mg) (f : Addr) (cdv : Value) (A : Around) (outer : List PySem.Env) (s : Shared) (H : Hp) (E : XK) (hgu : A.guards = some []) (hr : Room 8 (A.deeper (envOfC "_law_right" (defScope s__law_right) s.heap.objs.size f cdv))) :
    DSs (cxOf (L2.CX P w) P w K mg base ["_law_tree_here", "_law_due"] "_law_right" (defScope s__law_right) f cdv A outer s H E) (wE E) (defBody s__law_right) b__law_right := by
  have hu1 := room_1 hr
  have hu64 := room_64 hr
  have hu100 := room_100 hr
  exact dss_cons (ds_set (i := 1) sc__law_right.nd rfl (.inl rfl) (de_call (ok__law_text T) hgu (hr.mono (by decide)) (takes_of rfl rfl rfl rfl) (by rfl) (dg_v (de_var (pv 0)) (dg_nil)))) (dss_one (ds_ret (de_and (de_cmp (o_eq hu64) p_eq (de_call (ok_tree_text T) hgu (hr.mono (by decide)) (takes_of rfl rfl rfl rfl) (by rfl) (dg_v (de_var (pv 0)) (dg_nil))) (de_var (pv 1))) (de_and1 (de_cmp (o_eq hu64) p_eq (de_bi (call_reprD hgu hu100) p_repr (by rfl) T.z_repr boot_repr (da_cons (de_call (ok_read_tree T) hgu (hr.mono (by decide)) (takes_of rfl rfl rfl rfl) (by rfl) (dg_v (de_var (pv 1)) (dg_nil))) (da_nil))) (de_bi (call_reprD hgu hu100) p_repr (by rfl) T.z_repr boot_repr (da_cons (de_var (pv 0)) (da_nil))))))))
theorem ok__law_right {P : Program} {w : World} {K : PySem.W.Frag} {mg : Str → Option Value} {base : Heap} (T : Top K mg) : Def P w K mg base "_law_right" 9 1 [] none F__law_right :=
  def_mk (st := s__law_right) (N := ["_law_tree_here", "_law_due"]) (ps := ["_law_tree_here"]) T.f__law_right sc__law_right (body__law_right T)
theorem body__law_mixed {P : Program} {w : World} {K : PySem.W.Frag} {mg : Str → Option Value} {base : Heap} (T : Top K mg) (f : Addr) (cdv : Value) (A : Around) (outer : List PySem.Env) (s : Shared) (H : Hp) (E : XK) (hgu : A.guards = some []) (hr : Room 0 (A.deeper (envOfC "_law_mixed" (defScope s__law_mixed) s.heap.objs.size f cdv))) :
    DSs (cxOf (L2.CX P w) P w K mg base ["_law_cell", "_law_k", "_law_number"] "_law_mixed" (defScope s__law_mixed) f cdv A outer s H E) (wE E) (defBody s__law_mixed) b__law_mixed := by
  have hu1 := room_1 hr
  have hu64 := room_64 hr
  have hu100 := room_100 hr
  exact dss_cons (ds_set (i := 2) sc__law_mixed.nd rfl (.inl rfl) (de_op o_add p_add (de_op o_add p_add (de_op op_mod p_mod (de_var (pv 0)) (de_ix (i_ix hu1) p_ix (de_lst (dd_cons (de_int) (dd_cons (de_int) (dd_cons (de_int) (dd_cons (de_int) (dd_nil)))))) (de_op op_mod p_mod (de_var (pv 1)) (de_int)))) (de_op o_mul p_mul (de_int) (de_var (pv 1)))) (de_int))) (dss_one (ds_ret (de_op op_mod p_mod (de_op o_mul p_mul (de_op op_mod p_mod (de_op o_mul p_mul (de_var (pv 2)) (de_var (pv 2))) (de_int)) (de_int)) (de_int))))
theorem ok__law_mixed {P : Program} {w : World} {K : PySem.W.Frag} {mg : Str → Option Value} {base : Heap} (T : Top K mg) : Def P w K mg base "_law_mixed" 1 2 [] none F__law_mixed :=
  def_mk (st := s__law_mixed) (N := ["_law_cell", "_law_k", "_law_number"]) (ps := ["_law_cell", "_law_k"]) T.f__law_mixed sc__law_mixed (body__law_mixed T)
theorem body__law_digit {P : Program} {w : World} {K : PySem.W.Frag} {mg : Str → Option Value} {base : Heap} (T : Top K mg) (f : Addr) (cdv : Value) (A : Around) (outer : List PySem.Env) (s : Shared) (H : Hp) (E : XK) (hgu : A.guards = some []) (hr : Room 1 (A.deeper (envOfC "_law_digit" (defScope s__law_digit) s.heap.objs.size f cdv))) :
    DSs (cxOf (L2.CX P w) P w K mg base ["_law_state", "_law_many", "_law_j", "_law_found"] "_law_digit" (defScope s__law_digit) f cdv A outer s H E) (wE E) (defBody s__law_digit) b__law_digit := by
  have hu1 := room_1 hr
  have hu64 := room_64 hr
  have hu100 := room_100 hr
  exact dss_cons (ds_if (dt_cmp (o_eq hu64) p_eq (de_ix (i_ix hu1) p_ix (de_var (pv 0)) (de_str)) (de_int)) (dss_one (ds_for (ix := [2]) (passes_of rfl) rfl (di_range1 (by rfl) T.z_range (da_cons (de_int) (da_nil))) (dtg_name (i := 2) sc__law_digit.nd rfl (.inl rfl) (by decide)) (dss_cons (ds_put hu1 (pv 0) (de_str) (de_op o_add p_add (de_ix (i_ix hu1) p_ix (de_var (pv 0)) (de_str)) (de_int))) (dss_one (ds_put hu1 (pv 0) (de_str) (de_op o_add p_add (de_op o_mul p_mul (de_ix (i_ix hu1) p_ix (de_var (pv 0)) (de_str)) (de_int)) (de_call (ok__law_mixed T) hgu (hr.mono (by decide)) (takes_of rfl rfl rfl rfl) (by rfl) (dg_v (de_ix (i_ix hu1) p_ix (de_var (pv 0)) (de_str)) (dg_v (de_ix (i_ix hu1) p_ix (de_var (pv 0)) (de_str)) (dg_nil)))))))))) (dss_nil)) (dss_cons (ds_set (i := 3) sc__law_digit.nd rfl (.inl rfl) (de_op op_mod p_mod (de_ix (i_ix hu1) p_ix (de_var (pv 0)) (de_str)) (de_var (pv 1)))) (dss_cons (ds_put hu1 (pv 0) (de_str) (de_op op_fdiv p_div (de_ix (i_ix hu1) p_ix (de_var (pv 0)) (de_str)) (de_var (pv 1)))) (dss_one (ds_ret (de_var (pv 3))))))
theorem ok__law_digit {P : Program} {w : World} {K : PySem.W.Frag} {mg : Str → Option Value} {base : Heap} (T : Top K mg) : Def P w K mg base "_law_digit" 2 2 [] (some 0) F__law_digit :=
  def_mk (st := s__law_digit) (N := ["_law_state", "_law_many", "_law_j", "_law_found"]) (ps := ["_law_state", "_law_many"]) T.f__law_digit sc__law_digit (body__law_digit T)
theorem body__law_word {P : Program} {w : World} {K : PySem.W.Frag} {mg : Str → Option Value} {base : Heap} (T : Top K mg) (f : Addr) (cdv : Value) (A : Around) (outer : List PySem.Env) (s : Shared) (H : Hp) (E : XK) (hgu : A.guards = some []) (hr : Room 2 (A.deeper (envOfC "_law_word" (defScope s__law_word) s.heap.objs.size f cdv))) :
    DSs (cxOf (L2.CX P w) P w K mg base ["_law_state", "_law_signs", "_law_some", "_law_j"] "_law_word" (defScope s__law_word) f cdv A outer s H E) (wE E) (defBody s__law_word) b__law_word := by
  have hu1 := room_1 hr
  have hu64 := room_64 hr
  have hu100 := room_100 hr
  exact dss_cons (ds_setLc (k := 1) (own := [("_law_j", 3)]) rfl sc__law_word.nd rfl rfl (sw_true rfl rfl rfl (by decide +kernel)) (di_range1 (by rfl) T.z_range (da_cons (de_op o_add p_add (de_int) (de_call (ok__law_digit T) hgu (hr.mono (by decide)) (takes_of rfl rfl rfl rfl) (by rfl) (dg_io (de_var (pv 0)) (dg_v (de_int) (dg_nil))))) (da_nil))) (blkOk_by (N := ["_law_state", "_law_signs", "_law_some", "_law_j"]) (sc := defScope s__law_word) (by decide +kernel)) (fun _ _ _ _ _ => dtg_name (i := 3) sc__law_word.nd rfl (.inl rfl) (by decide)) (fun _ _ _ _ _ => pts_yes) (fun _ _ _ _ _ => de_ix (i_ix hu1) p_ix (de_str) (de_call (ok__law_digit T) hgu (hr.mono (by decide)) DL.takes0 (by rfl) (dg_io (de_var (pv 0)) (dg_v (de_int) (dg_nil)))))) (dss_cons (ds_set (i := 2) sc__law_word.nd rfl (.inl rfl) (de_lst (dd_cons (de_join (de_str) (de_var (pv 1))) (dd_cons (de_join (de_str) (de_slice (de_var (pv 1)) do_none (do_some (de_int)))) (dd_cons (de_str) (dd_cons (de_str) (dd_cons (de_str) (dd_cons (de_str) (dd_cons (de_str) (dd_cons (de_str) (dd_cons (de_str) (dd_cons (de_str) (dd_cons (de_str) (dd_cons (de_str) (dd_nil))))))))))))))) (dss_one (ds_ret (de_ix (i_ix hu1) p_ix (de_var (pv 2)) (de_call (ok__law_digit T) hgu (hr.mono (by decide)) (takes_of rfl rfl rfl rfl) (by rfl) (dg_io (de_var (pv 0)) (dg_v (de_int) (dg_nil))))))))
theorem ok__law_word {P : Program} {w : World} {K : PySem.W.Frag} {mg : Str → Option Value} {base : Heap} (T : Top K mg) : Def P w K mg base "_law_word" 3 1 [] (some 0) F__law_word :=
  def_mk (st := s__law_word) (N := ["_law_state", "_law_signs", "_law_some", "_law_j"]) (ps := ["_law_state"]) T.f__law_word sc__law_word (body__law_word T)
theorem body__law_tree {P : Program} {w : World} {K : PySem.W.Frag} {mg : Str → Option Value} {base : Heap} (T : Top K mg) (f : Addr) (cdv : Value) (A : Around) (outer : List PySem.Env) (s : Shared) (H : Hp) (E : XK) (hgu : A.guards = some []) (hr : Room 3 (A.deeper (envOfC "_law_tree" (defScope s__law_tree) s.heap.objs.size f cdv))) :
    DSs (cxOf (L2.CX P w) P w K mg base ["_law_state", "_law_most", "_law_way", "_law_many", "_law_head", "_law_names", "_law_people", "_law_j", "_law_word_here", "_law_talk", "_law_some", "_law_caller"] "_law_tree" (defScope s__law_tree) f cdv A outer s H E) (wE E) (defBody s__law_tree) b__law_tree := by
  have hu1 := room_1 hr
  have hu64 := room_64 hr
  have hu100 := room_100 hr
  exact dss_cons (ds_par (i := 2) (j := 3) rfl sc__law_tree.nd rfl rfl (by decide) rfl rfl (de_call (ok__law_digit T) hgu (hr.mono (by decide)) (takes_of rfl rfl rfl rfl) (by rfl) (dg_io (de_var (pv 0)) (dg_v (de_int) (dg_nil)))) (de_call (ok__law_digit T) hgu (hr.mono (by decide)) (takes_of rfl rfl rfl rfl) (by rfl) (dg_io (de_var (pv 0)) (dg_v (de_op o_add p_add (de_var (pv 1)) (de_int)) (dg_nil)))) (by rfl)) (dss_cons (ds_set (i := 4) sc__law_tree.nd rfl (.inl rfl) (de_tup (dd_cons (de_op o_add p_add (de_int) (de_call (ok__law_digit T) hgu (hr.mono (by decide)) (takes_of rfl rfl rfl rfl) (by rfl) (dg_io (de_var (pv 0)) (dg_v (de_int) (dg_nil))))) (dd_cons (de_call (ok__law_digit T) hgu (hr.mono (by decide)) (takes_of rfl rfl rfl rfl) (by rfl) (dg_io (de_var (pv 0)) (dg_v (de_int) (dg_nil)))) (dd_nil))))) (dss_cons (ds_par (i := 5) (j := 6) rfl sc__law_tree.nd rfl rfl (by decide) rfl rfl (de_lst (dd_nil)) (de_lst (dd_nil)) (by rfl)) (dss_cons (ds_for (ix := [7]) (passes_of rfl) rfl (di_range1 (by rfl) T.z_range (da_cons (de_op o_mul p_mul (de_int) (de_var (pv 3))) (da_nil))) (dtg_name (i := 7) sc__law_tree.nd rfl (.inl rfl) (by decide)) (dss_cons (ds_par (i := 8) (j := 9) rfl sc__law_tree.nd rfl rfl (by decide) rfl rfl (de_call (ok__law_word T) hgu (hr.mono (by decide)) (takes_of rfl rfl rfl rfl) (by rfl) (dg_io (de_var (pv 0)) (dg_nil))) (de_ix (i_ix hu1) p_ix (de_lst (dd_cons (de_int) (dd_cons (de_int) (dd_cons (de_int) (dd_cons (de_op o_add p_add (de_int) (de_call (ok__law_digit T) hgu (hr.mono (by decide)) (takes_of rfl rfl rfl rfl) (by rfl) (dg_io (de_var (pv 0)) (dg_v (de_int) (dg_nil))))) (dd_nil)))))) (de_call (ok__law_digit T) hgu (hr.mono (by decide)) (takes_of rfl rfl rfl rfl) (by rfl) (dg_io (de_var (pv 0)) (dg_v (de_int) (dg_nil))))) (by rfl)) (dss_cons (ds_set (i := 10) sc__law_tree.nd rfl (.inl rfl) (de_op o_add p_add (de_lst (dd_cons (de_str) (dd_nil))) (de_var (pv 5)))) (dss_cons (ds_set (i := 10) sc__law_tree.nd rfl (.inl rfl) (de_ix (i_ix hu1) p_ix (de_lst (dd_cons (de_var (pv 10)) (dd_cons (de_slice (de_var (pv 10)) (do_some (de_un un_neg p_neg (de_int))) do_none) (dd_cons (de_slice (de_var (pv 10)) do_none (do_some (de_int))) (dd_cons (de_slice (de_var (pv 10)) (do_some (de_un un_neg p_neg (de_int))) do_none) (dd_nil)))))) (de_var (pv 2)))) (dss_cons (ds_set (i := 11) sc__law_tree.nd rfl (.inl rfl) (de_ix (i_ix hu1) p_ix (de_var (pv 10)) (de_call (ok__law_digit T) hgu (hr.mono (by decide)) (takes_of rfl rfl rfl rfl) (by rfl) (dg_io (de_var (pv 0)) (dg_v (de_bi call_len p_len (by rfl) T.z_len boot_len (da_cons (de_var (pv 10)) (da_nil))) (dg_nil)))))) (dss_one (ds_if (dt_w (dw_and (dt_cmp o_notIn p_notIn (de_var (pv 8)) (de_var (pv 5))) (dw_and1 (dt_cmp o_lt p_lt (de_bi call_len p_len (by rfl) T.z_len boot_len (da_cons (de_var (pv 5)) (da_nil))) (de_var (pv 3)))))) (dss_cons (ds_expr (de_append (pv 5) (de_var (pv 8)))) (dss_one (ds_expr (de_append (pv 6) (de_tup (dd_cons (de_var (pv 8)) (dd_cons (de_var (pv 11)) (dd_cons (de_var (pv 9)) (dd_nil))))))))) (dss_nil)))))))) (dss_one (ds_ret (de_op o_add p_add (de_var (pv 4)) (de_tup (dd_cons (de_ty call_tuple_of p_tuple (by rfl) T.z_tuple boot_tuple (da_cons (de_var (pv 6)) (da_nil))) (dd_nil)))))))))
theorem ok__law_tree {P : Program} {w : World} {K : PySem.W.Frag} {mg : Str → Option Value} {base : Heap} (T : Top K mg) : Def P w K mg base "_law_tree" 4 2 [] (some 0) F__law_tree :=
  def_mk (st := s__law_tree) (N := ["_law_state", "_law_most", "_law_way", "_law_many", "_law_head", "_law_names", "_law_people", "_law_j", "_law_word_here", "_law_talk", "_law_some", "_law_caller"]) (ps := ["_law_state", "_law_most"]) T.f__law_tree sc__law_tree (body__law_tree T)
theorem body_law {P : Program} {w : World} {K : PySem.W.Frag} {mg : Str → Option Value} {base : Heap} (T : Top K mg) (f : Addr) (cdv : Value) (A : Around) (outer : List PySem.Env) (s : Shared) (H : Hp) (E : XK) (hgu : A.guards = some []) (hr : Room 9 (A.deeper (envOfC "law" (defScope s_law) s.heap.objs.size f cdv))) :
    DSs (cxOf (L2.CX P w) P w K mg base ["_law_script", "_law_k", "_law_cell", "_law_state", "_law_names", "_law_chain", "_law_wide", "_law_sign", "_law_name", "_law_above"] "law" (defScope s_law) f cdv A outer s H E) (wE E) (defBody s_law) b_law := by
  have hu1 := room_1 hr
  have hu64 := room_64 hr
  have hu100 := room_100 hr
  exact dss_cons (ds_for (ix := [1, 2]) (passes_of rfl) rfl (di_enum0 (by rfl) T.z_enumerate (dd_cons (de_op o_add p_add (de_slice (de_var (pv 0)) do_none (do_some (de_int))) (de_lst (dd_cons (de_bi (cr_sum rfl) p_sum (by rfl) T.z_sum boot_sum (da_cons (de_var (pv 0)) (da_nil))) (dd_nil)))) (dd_nil))) (dtg_tup rfl (dtgs_cons (dtg_name (i := 1) sc_law.nd rfl (.inl rfl) (by decide)) (dtgs_cons (dtg_name (i := 2) sc_law.nd rfl (.inl rfl) (by decide)) (dtgs_nil)))) (dss_cons (ds_set (i := 3) sc_law.nd rfl (.inl rfl) (de_call (ok__law_draw T) hgu (hr.mono (by decide)) (takes_of rfl rfl rfl rfl) (by rfl) (dg_v (de_var (pv 2)) (dg_v (de_var (pv 1)) (dg_nil))))) (dss_one (ds_if (dt_not (dt_val (de_call (ok__law_right T) hgu (hr.mono (by decide)) (takes_of rfl rfl rfl rfl) (by rfl) (dg_v (de_call (ok__law_tree T) hgu (hr.mono (by decide)) (takes_of rfl rfl rfl rfl) (by rfl) (dg_io (de_var (pv 3)) (dg_v (de_ix (i_ix hu1) p_ix (de_lst (dd_cons (de_int) (dd_cons (de_int) (dd_cons (de_int) (dd_nil))))) (de_call (ok__law_digit T) hgu (hr.mono (by decide)) (takes_of rfl rfl rfl rfl) (by rfl) (dg_io (de_var (pv 3)) (dg_v (de_int) (dg_nil))))) (dg_nil)))) (dg_nil))))) (dss_one (ds_ret (de_bl))) (dss_nil))))) (dss_cons (ds_setLc (k := 4) (own := [("_law_sign", 7)]) rfl sc_law.nd rfl rfl (sw_true rfl rfl rfl (by decide +kernel)) (di_seq (de_str)) (blkOk_by (N := ["_law_script", "_law_k", "_law_cell", "_law_state", "_law_names", "_law_chain", "_law_wide", "_law_sign", "_law_name", "_law_above"]) (sc := defScope s_law) (by decide +kernel)) (fun _ _ _ _ _ => dtg_name (i := 7) sc_law.nd rfl (.inl rfl) (by decide)) (fun _ _ _ _ _ => pts_yes) (fun _ _ _ _ _ => de_op o_add p_add (de_str) (de_var (pv 7)))) (dss_cons (ds_set (i := 5) sc_law.nd rfl (.inl rfl) (de_tup (dd_cons (de_int) (dd_cons (de_int) (dd_cons (de_ty call_tuple_of p_tuple (by rfl) T.z_tuple boot_tuple (da_cons (de_lc (own := [("_law_name", 8), ("_law_above", 9)]) rfl sc_law.nd (di_zip (by rfl) T.z_zip (dd_cons (de_var (pv 4)) (dd_cons (de_op o_add p_add (de_lst (dd_cons (de_str) (dd_nil))) (de_var (pv 4))) (dd_nil)))) (blkOk_by (N := ["_law_script", "_law_k", "_law_cell", "_law_state", "_law_names", "_law_chain", "_law_wide", "_law_sign", "_law_name", "_law_above"]) (sc := defScope s_law) (by decide +kernel)) (fun _ _ _ _ _ => dtg_tup rfl (dtgs_cons (dtg_name (i := 8) sc_law.nd rfl (.inl rfl) (by decide)) (dtgs_cons (dtg_name (i := 9) sc_law.nd rfl (.inl rfl) (by decide)) (dtgs_nil)))) (fun _ _ _ _ _ => pts_yes) (fun _ _ _ _ _ => de_tup (dd_cons (de_var (pv 8)) (dd_cons (de_var (pv 9)) (dd_cons (de_int) (dd_nil)))))) (da_nil))) (dd_nil)))))) (dss_cons (ds_set (i := 6) sc_law.nd rfl (.inl rfl) (de_tup (dd_cons (de_int) (dd_cons (de_int) (dd_cons (de_ty call_tuple_of p_tuple (by rfl) T.z_tuple boot_tuple (da_cons (de_lc (own := [("_law_name", 8)]) rfl sc_law.nd (di_seq (de_rev (de_var (pv 4)))) (blkOk_by (N := ["_law_script", "_law_k", "_law_cell", "_law_state", "_law_names", "_law_chain", "_law_wide", "_law_sign", "_law_name", "_law_above"]) (sc := defScope s_law) (by decide +kernel)) (fun _ _ _ _ _ => dtg_name (i := 8) sc_law.nd rfl (.inl rfl) (by decide)) (fun _ _ _ _ _ => pts_yes) (fun _ _ _ _ _ => de_tup (dd_cons (de_var (pv 8)) (dd_cons (de_str) (dd_cons (de_int) (dd_nil)))))) (da_nil))) (dd_nil)))))) (dss_cons (ds_if (dt_w (dw_or (dt_not (dt_val (de_call (ok__law_right T) hgu (hr.mono (by decide)) (takes_of rfl rfl rfl rfl) (by rfl) (dg_v (de_var (pv 5)) (dg_nil))))) (dw_or1 (dt_not (dt_val (de_call (ok__law_right T) hgu (hr.mono (by decide)) (takes_of rfl rfl rfl rfl) (by rfl) (dg_v (de_var (pv 6)) (dg_nil)))))))) (dss_one (ds_ret (de_bl))) (dss_nil)) (dss_one (ds_ret (de_and (de_call (ok__law_right T) hgu (hr.mono (by decide)) (takes_of rfl rfl rfl rfl) (by rfl) (dg_v (de_tup (dd_cons (de_int) (dd_cons (de_int) (dd_cons (de_tup (dd_nil)) (dd_nil))))) (dg_nil))) (de_and1 (de_call (ok__law_right T) hgu (hr.mono (by decide)) (takes_of rfl rfl rfl rfl) (by rfl) (dg_v (de_tup (dd_cons (de_int) (dd_cons (de_int) (dd_cons (de_tup (dd_cons (de_tup (dd_cons (de_str) (dd_cons (de_str) (dd_cons (de_int) (dd_nil))))) (dd_nil))) (dd_nil))))) (dg_nil)))))))))))
theorem ok_law {P : Program} {w : World} {K : PySem.W.Frag} {mg : Str → Option Value} {base : Heap} (T : Top K mg) : Def P w K mg base "law" 10 1 [] none F_law :=
  def_mk (st := s_law) (N := ["_law_script", "_law_k", "_law_cell", "_law_state", "_law_names", "_law_chain", "_law_wide", "_law_sign", "_law_name", "_law_above"]) (ps := ["_law_script"]) T.f_law sc_law (body_law T)
end K05

namespace K05
open DL PySem L2
theorem whole_int (i : Int) : F_is_whole [.v (.int i)] = .ok (.v (.bl true)) none := by
  simp only [F_is_whole, b_is_whole, DL.le_size, DL.lt_size, Int.reducePow, Nat.reducePow, Int.reduceLT, or_true, true_or, or_false, false_or, or_self, DL.k_NoneType_int, DL.k_NoneType_str, DL.k_NoneType_tuple, DL.k_NoneType_list, DL.k_NoneType_bool, DL.k_bool_int, DL.k_bool_str, DL.k_bool_tuple, DL.k_bool_list, DL.k_bool_bool, DL.k_int_int, DL.k_int_str, DL.k_int_tuple, DL.k_int_list, DL.k_int_bool, DL.k_str_int, DL.k_str_str, DL.k_str_tuple, DL.k_str_list, DL.k_str_bool, DL.k_list_int, DL.k_list_str, DL.k_list_tuple, DL.k_list_list, DL.k_list_bool, DL.k_tuple_int, DL.k_tuple_str, DL.k_tuple_tuple, DL.k_tuple_list, DL.k_tuple_bool, DL.k_dict_int, DL.k_dict_str, DL.k_dict_tuple, DL.k_dict_list, DL.k_dict_bool, DL.runDef, DL.sSeq, DL.sIf, DL.sE, DL.sSet, DL.sRet, DL.sNx, DL.sPar, DL.assign, DL.free_z, DL.free_s, DL.okB_u, DL.okB_v, DL.okB_o, DL.fresh, DL.toD, DL.peek, DL.peeks, DL.giv, DL.eC, DL.eVar, DL.eUn, DL.eBin, DL.eT, DL.eB, DL.tNotE, DL.tAndE, DL.tOrE, DL.eIf, DL.eNot, DL.eAnd, DL.eOr, DL.eChain, DL.eDs, DL.eTup, DL.eLst, DL.eVs, DL.eBi, DL.eDct, DL.eKs, DL.mergeD, DL.sPut, DL.sFor, DL.sAsg, DL.tgN, DL.tgT, DL.tgs, DL.eMut, DL.gAppend, DL.eM1, DL.eFmt, DL.eJs, DL.eSl, DL.ePart, DL.gIx, DL.keyD, DL.gAdd, DL.gSub, DL.gMul, DL.gMod, DL.gDiv, DL.gPow, DL.gLt, DL.gLe, DL.gGt, DL.gGe, DL.gIs, DL.gIsNot, DL.isNon, DL.gIsi, DL.tyD, DL.gLen, DL.gTuple, DL.sv, DL.truth, DL.eCall, DL.eArgs, DL.callF, DL.slotsOf, DL.countIo, DL.ioOf, DL.borsOf, DL.borOk, DL.back1, DL.putBack, DL.nolR, DL.nolM, DL.nolO, DL.fin, DL.ioM, DL.M.toD, DL.bind_ok, DL.bind_no, Option.bind_some, Option.bind_none, Option.map_some, Option.map_none, List.length_cons, List.length_nil, List.length_append, List.length_map, List.append_nil, List.nil_append, List.cons_append, List.map_cons, List.map_nil, List.replicate, List.getElem?_cons_zero, List.getElem?_cons_succ, List.getElem?_nil, List.set_cons_zero, List.set_cons_succ, Nat.zero_add, Nat.add_zero, Nat.reduceAdd, Nat.reduceSub, if_true, if_false, Bool.not_true, Bool.not_false, Bool.and_self, Bool.and_true, Bool.true_and, Bool.or_true, Bool.true_or, Bool.false_or, Bool.or_false, List.isEmpty_nil, List.isEmpty_cons, if_pos, reduceIte, Bool.false_eq_true, eq_self, and_self, and_true, true_and, ↓reduceIte, Nat.le_refl, reduceCtorEq, Nat.sub_self, List.all_cons, List.all_nil, Bool.false_and, Nat.zero_le, Nat.reduceLeDiff, Nat.reduceEqDiff, Int.cast_ofNat_Int, Int.reduceLE, Int.reduceLT, Int.reduceEq, Int.reduceNe, Int.reduceAdd, Int.reduceSub, Int.reduceMul, Int.reduceNeg, Int.reduceToNat, decide_true, decide_false, ne_eq, not_true_eq_false, not_false_eq_true]
theorem among_int (i a b : Int) : F_is_among [.v (.int i), .v (.int a), .v (.int b)] = .ok (.v (.bl (decide (a ≤ i) && decide (i ≤ b)))) none := by
  simp only [F_is_among, b_is_among, whole_int, DL.le_size, DL.lt_size, Int.reducePow, Nat.reducePow, Int.reduceLT, or_true, true_or, or_false, false_or, or_self, DL.k_NoneType_int, DL.k_NoneType_str, DL.k_NoneType_tuple, DL.k_NoneType_list, DL.k_NoneType_bool, DL.k_bool_int, DL.k_bool_str, DL.k_bool_tuple, DL.k_bool_list, DL.k_bool_bool, DL.k_int_int, DL.k_int_str, DL.k_int_tuple, DL.k_int_list, DL.k_int_bool, DL.k_str_int, DL.k_str_str, DL.k_str_tuple, DL.k_str_list, DL.k_str_bool, DL.k_list_int, DL.k_list_str, DL.k_list_tuple, DL.k_list_list, DL.k_list_bool, DL.k_tuple_int, DL.k_tuple_str, DL.k_tuple_tuple, DL.k_tuple_list, DL.k_tuple_bool, DL.k_dict_int, DL.k_dict_str, DL.k_dict_tuple, DL.k_dict_list, DL.k_dict_bool, DL.runDef, DL.sSeq, DL.sIf, DL.sE, DL.sSet, DL.sRet, DL.sNx, DL.sPar, DL.assign, DL.free_z, DL.free_s, DL.okB_u, DL.okB_v, DL.okB_o, DL.fresh, DL.toD, DL.peek, DL.peeks, DL.giv, DL.eC, DL.eVar, DL.eUn, DL.eBin, DL.eT, DL.eB, DL.tNotE, DL.tAndE, DL.tOrE, DL.eIf, DL.eNot, DL.eAnd, DL.eOr, DL.eChain, DL.eDs, DL.eTup, DL.eLst, DL.eVs, DL.eBi, DL.eDct, DL.eKs, DL.mergeD, DL.sPut, DL.sFor, DL.sAsg, DL.tgN, DL.tgT, DL.tgs, DL.eMut, DL.gAppend, DL.eM1, DL.eFmt, DL.eJs, DL.eSl, DL.ePart, DL.gIx, DL.keyD, DL.gAdd, DL.gSub, DL.gMul, DL.gMod, DL.gDiv, DL.gPow, DL.gLt, DL.gLe, DL.gGt, DL.gGe, DL.gIs, DL.gIsNot, DL.isNon, DL.gIsi, DL.tyD, DL.gLen, DL.gTuple, DL.sv, DL.truth, DL.eCall, DL.eArgs, DL.callF, DL.slotsOf, DL.countIo, DL.ioOf, DL.borsOf, DL.borOk, DL.back1, DL.putBack, DL.nolR, DL.nolM, DL.nolO, DL.fin, DL.ioM, DL.M.toD, DL.bind_ok, DL.bind_no, Option.bind_some, Option.bind_none, Option.map_some, Option.map_none, List.length_cons, List.length_nil, List.length_append, List.length_map, List.append_nil, List.nil_append, List.cons_append, List.map_cons, List.map_nil, List.replicate, List.getElem?_cons_zero, List.getElem?_cons_succ, List.getElem?_nil, List.set_cons_zero, List.set_cons_succ, Nat.zero_add, Nat.add_zero, Nat.reduceAdd, Nat.reduceSub, if_true, if_false, Bool.not_true, Bool.not_false, Bool.and_self, Bool.and_true, Bool.true_and, Bool.or_true, Bool.true_or, Bool.false_or, Bool.or_false, List.isEmpty_nil, List.isEmpty_cons, if_pos, reduceIte, Bool.false_eq_true, eq_self, and_self, and_true, true_and, ↓reduceIte, Nat.le_refl, reduceCtorEq, Nat.sub_self, List.all_cons, List.all_nil, Bool.false_and, Nat.zero_le, Nat.reduceLeDiff, Nat.reduceEqDiff, Int.cast_ofNat_Int, Int.reduceLE, Int.reduceLT, Int.reduceEq, Int.reduceNe, Int.reduceAdd, Int.reduceSub, Int.reduceMul, Int.reduceNeg, Int.reduceToNat, decide_true, decide_false, ne_eq, not_true_eq_false, not_false_eq_true]
  by_cases h : a ≤ i
  · simp only [h, DL.le_size, DL.lt_size, Int.reducePow, Nat.reducePow, Int.reduceLT, or_true, true_or, or_false, false_or, or_self, DL.k_NoneType_int, DL.k_NoneType_str, DL.k_NoneType_tuple, DL.k_NoneType_list, DL.k_NoneType_bool, DL.k_bool_int, DL.k_bool_str, DL.k_bool_tuple, DL.k_bool_list, DL.k_bool_bool, DL.k_int_int, DL.k_int_str, DL.k_int_tuple, DL.k_int_list, DL.k_int_bool, DL.k_str_int, DL.k_str_str, DL.k_str_tuple, DL.k_str_list, DL.k_str_bool, DL.k_list_int, DL.k_list_str, DL.k_list_tuple, DL.k_list_list, DL.k_list_bool, DL.k_tuple_int, DL.k_tuple_str, DL.k_tuple_tuple, DL.k_tuple_list, DL.k_tuple_bool, DL.k_dict_int, DL.k_dict_str, DL.k_dict_tuple, DL.k_dict_list, DL.k_dict_bool, DL.runDef, DL.sSeq, DL.sIf, DL.sE, DL.sSet, DL.sRet, DL.sNx, DL.sPar, DL.assign, DL.free_z, DL.free_s, DL.okB_u, DL.okB_v, DL.okB_o, DL.fresh, DL.toD, DL.peek, DL.peeks, DL.giv, DL.eC, DL.eVar, DL.eUn, DL.eBin, DL.eT, DL.eB, DL.tNotE, DL.tAndE, DL.tOrE, DL.eIf, DL.eNot, DL.eAnd, DL.eOr, DL.eChain, DL.eDs, DL.eTup, DL.eLst, DL.eVs, DL.eBi, DL.eDct, DL.eKs, DL.mergeD, DL.sPut, DL.sFor, DL.sAsg, DL.tgN, DL.tgT, DL.tgs, DL.eMut, DL.gAppend, DL.eM1, DL.eFmt, DL.eJs, DL.eSl, DL.ePart, DL.gIx, DL.keyD, DL.gAdd, DL.gSub, DL.gMul, DL.gMod, DL.gDiv, DL.gPow, DL.gLt, DL.gLe, DL.gGt, DL.gGe, DL.gIs, DL.gIsNot, DL.isNon, DL.gIsi, DL.tyD, DL.gLen, DL.gTuple, DL.sv, DL.truth, DL.eCall, DL.eArgs, DL.callF, DL.slotsOf, DL.countIo, DL.ioOf, DL.borsOf, DL.borOk, DL.back1, DL.putBack, DL.nolR, DL.nolM, DL.nolO, DL.fin, DL.ioM, DL.M.toD, DL.bind_ok, DL.bind_no, Option.bind_some, Option.bind_none, Option.map_some, Option.map_none, List.length_cons, List.length_nil, List.length_append, List.length_map, List.append_nil, List.nil_append, List.cons_append, List.map_cons, List.map_nil, List.replicate, List.getElem?_cons_zero, List.getElem?_cons_succ, List.getElem?_nil, List.set_cons_zero, List.set_cons_succ, Nat.zero_add, Nat.add_zero, Nat.reduceAdd, Nat.reduceSub, if_true, if_false, Bool.not_true, Bool.not_false, Bool.and_self, Bool.and_true, Bool.true_and, Bool.or_true, Bool.true_or, Bool.false_or, Bool.or_false, List.isEmpty_nil, List.isEmpty_cons, if_pos, reduceIte, Bool.false_eq_true, eq_self, and_self, and_true, true_and, ↓reduceIte, Nat.le_refl, reduceCtorEq, Nat.sub_self, List.all_cons, List.all_nil, Bool.false_and, Nat.zero_le, Nat.reduceLeDiff, Nat.reduceEqDiff, Int.cast_ofNat_Int, Int.reduceLE, Int.reduceLT, Int.reduceEq, Int.reduceNe, Int.reduceAdd, Int.reduceSub, Int.reduceMul, Int.reduceNeg, Int.reduceToNat, decide_true, decide_false, ne_eq, not_true_eq_false, not_false_eq_true]
  · simp only [h, decide_eq_false h, DL.le_size, DL.lt_size, Int.reducePow, Nat.reducePow, Int.reduceLT, or_true, true_or, or_false, false_or, or_self, DL.k_NoneType_int, DL.k_NoneType_str, DL.k_NoneType_tuple, DL.k_NoneType_list, DL.k_NoneType_bool, DL.k_bool_int, DL.k_bool_str, DL.k_bool_tuple, DL.k_bool_list, DL.k_bool_bool, DL.k_int_int, DL.k_int_str, DL.k_int_tuple, DL.k_int_list, DL.k_int_bool, DL.k_str_int, DL.k_str_str, DL.k_str_tuple, DL.k_str_list, DL.k_str_bool, DL.k_list_int, DL.k_list_str, DL.k_list_tuple, DL.k_list_list, DL.k_list_bool, DL.k_tuple_int, DL.k_tuple_str, DL.k_tuple_tuple, DL.k_tuple_list, DL.k_tuple_bool, DL.k_dict_int, DL.k_dict_str, DL.k_dict_tuple, DL.k_dict_list, DL.k_dict_bool, DL.runDef, DL.sSeq, DL.sIf, DL.sE, DL.sSet, DL.sRet, DL.sNx, DL.sPar, DL.assign, DL.free_z, DL.free_s, DL.okB_u, DL.okB_v, DL.okB_o, DL.fresh, DL.toD, DL.peek, DL.peeks, DL.giv, DL.eC, DL.eVar, DL.eUn, DL.eBin, DL.eT, DL.eB, DL.tNotE, DL.tAndE, DL.tOrE, DL.eIf, DL.eNot, DL.eAnd, DL.eOr, DL.eChain, DL.eDs, DL.eTup, DL.eLst, DL.eVs, DL.eBi, DL.eDct, DL.eKs, DL.mergeD, DL.sPut, DL.sFor, DL.sAsg, DL.tgN, DL.tgT, DL.tgs, DL.eMut, DL.gAppend, DL.eM1, DL.eFmt, DL.eJs, DL.eSl, DL.ePart, DL.gIx, DL.keyD, DL.gAdd, DL.gSub, DL.gMul, DL.gMod, DL.gDiv, DL.gPow, DL.gLt, DL.gLe, DL.gGt, DL.gGe, DL.gIs, DL.gIsNot, DL.isNon, DL.gIsi, DL.tyD, DL.gLen, DL.gTuple, DL.sv, DL.truth, DL.eCall, DL.eArgs, DL.callF, DL.slotsOf, DL.countIo, DL.ioOf, DL.borsOf, DL.borOk, DL.back1, DL.putBack, DL.nolR, DL.nolM, DL.nolO, DL.fin, DL.ioM, DL.M.toD, DL.bind_ok, DL.bind_no, Option.bind_some, Option.bind_none, Option.map_some, Option.map_none, List.length_cons, List.length_nil, List.length_append, List.length_map, List.append_nil, List.nil_append, List.cons_append, List.map_cons, List.map_nil, List.replicate, List.getElem?_cons_zero, List.getElem?_cons_succ, List.getElem?_nil, List.set_cons_zero, List.set_cons_succ, Nat.zero_add, Nat.add_zero, Nat.reduceAdd, Nat.reduceSub, if_true, if_false, Bool.not_true, Bool.not_false, Bool.and_self, Bool.and_true, Bool.true_and, Bool.or_true, Bool.true_or, Bool.false_or, Bool.or_false, List.isEmpty_nil, List.isEmpty_cons, if_pos, reduceIte, Bool.false_eq_true, eq_self, and_self, and_true, true_and, ↓reduceIte, Nat.le_refl, reduceCtorEq, Nat.sub_self, List.all_cons, List.all_nil, Bool.false_and, Nat.zero_le, Nat.reduceLeDiff, Nat.reduceEqDiff, Int.cast_ofNat_Int, Int.reduceLE, Int.reduceLT, Int.reduceEq, Int.reduceNe, Int.reduceAdd, Int.reduceSub, Int.reduceMul, Int.reduceNeg, Int.reduceToNat, decide_true, decide_false, ne_eq, not_true_eq_false, not_false_eq_true]
theorem talk_int (i : Int) : F_is_talk [.v (.int i)] = .ok (.v (.bl (decide (1 ≤ i) && decide (i ≤ 60)))) none := by
  simp only [F_is_talk, b_is_talk, among_int, DL.le_size, DL.lt_size, Int.reducePow, Nat.reducePow, Int.reduceLT, or_true, true_or, or_false, false_or, or_self, DL.k_NoneType_int, DL.k_NoneType_str, DL.k_NoneType_tuple, DL.k_NoneType_list, DL.k_NoneType_bool, DL.k_bool_int, DL.k_bool_str, DL.k_bool_tuple, DL.k_bool_list, DL.k_bool_bool, DL.k_int_int, DL.k_int_str, DL.k_int_tuple, DL.k_int_list, DL.k_int_bool, DL.k_str_int, DL.k_str_str, DL.k_str_tuple, DL.k_str_list, DL.k_str_bool, DL.k_list_int, DL.k_list_str, DL.k_list_tuple, DL.k_list_list, DL.k_list_bool, DL.k_tuple_int, DL.k_tuple_str, DL.k_tuple_tuple, DL.k_tuple_list, DL.k_tuple_bool, DL.k_dict_int, DL.k_dict_str, DL.k_dict_tuple, DL.k_dict_list, DL.k_dict_bool, DL.runDef, DL.sSeq, DL.sIf, DL.sE, DL.sSet, DL.sRet, DL.sNx, DL.sPar, DL.assign, DL.free_z, DL.free_s, DL.okB_u, DL.okB_v, DL.okB_o, DL.fresh, DL.toD, DL.peek, DL.peeks, DL.giv, DL.eC, DL.eVar, DL.eUn, DL.eBin, DL.eT, DL.eB, DL.tNotE, DL.tAndE, DL.tOrE, DL.eIf, DL.eNot, DL.eAnd, DL.eOr, DL.eChain, DL.eDs, DL.eTup, DL.eLst, DL.eVs, DL.eBi, DL.eDct, DL.eKs, DL.mergeD, DL.sPut, DL.sFor, DL.sAsg, DL.tgN, DL.tgT, DL.tgs, DL.eMut, DL.gAppend, DL.eM1, DL.eFmt, DL.eJs, DL.eSl, DL.ePart, DL.gIx, DL.keyD, DL.gAdd, DL.gSub, DL.gMul, DL.gMod, DL.gDiv, DL.gPow, DL.gLt, DL.gLe, DL.gGt, DL.gGe, DL.gIs, DL.gIsNot, DL.isNon, DL.gIsi, DL.tyD, DL.gLen, DL.gTuple, DL.sv, DL.truth, DL.eCall, DL.eArgs, DL.callF, DL.slotsOf, DL.countIo, DL.ioOf, DL.borsOf, DL.borOk, DL.back1, DL.putBack, DL.nolR, DL.nolM, DL.nolO, DL.fin, DL.ioM, DL.M.toD, DL.bind_ok, DL.bind_no, Option.bind_some, Option.bind_none, Option.map_some, Option.map_none, List.length_cons, List.length_nil, List.length_append, List.length_map, List.append_nil, List.nil_append, List.cons_append, List.map_cons, List.map_nil, List.replicate, List.getElem?_cons_zero, List.getElem?_cons_succ, List.getElem?_nil, List.set_cons_zero, List.set_cons_succ, Nat.zero_add, Nat.add_zero, Nat.reduceAdd, Nat.reduceSub, if_true, if_false, Bool.not_true, Bool.not_false, Bool.and_self, Bool.and_true, Bool.true_and, Bool.or_true, Bool.true_or, Bool.false_or, Bool.or_false, List.isEmpty_nil, List.isEmpty_cons, if_pos, reduceIte, Bool.false_eq_true, eq_self, and_self, and_true, true_and, ↓reduceIte, Nat.le_refl, reduceCtorEq, Nat.sub_self, List.all_cons, List.all_nil, Bool.false_and, Nat.zero_le, Nat.reduceLeDiff, Nat.reduceEqDiff, Int.cast_ofNat_Int, Int.reduceLE, Int.reduceLT, Int.reduceEq, Int.reduceNe, Int.reduceAdd, Int.reduceSub, Int.reduceMul, Int.reduceNeg, Int.reduceToNat, decide_true, decide_false, ne_eq, not_true_eq_false, not_false_eq_true]
theorem wait_int (i : Int) : F_is_wait [.v (.int i)] = .ok (.v (.bl (decide (1 ≤ i) && decide (i ≤ 60)))) none := by
  simp only [F_is_wait, b_is_wait, among_int, DL.le_size, DL.lt_size, Int.reducePow, Nat.reducePow, Int.reduceLT, or_true, true_or, or_false, false_or, or_self, DL.k_NoneType_int, DL.k_NoneType_str, DL.k_NoneType_tuple, DL.k_NoneType_list, DL.k_NoneType_bool, DL.k_bool_int, DL.k_bool_str, DL.k_bool_tuple, DL.k_bool_list, DL.k_bool_bool, DL.k_int_int, DL.k_int_str, DL.k_int_tuple, DL.k_int_list, DL.k_int_bool, DL.k_str_int, DL.k_str_str, DL.k_str_tuple, DL.k_str_list, DL.k_str_bool, DL.k_list_int, DL.k_list_str, DL.k_list_tuple, DL.k_list_list, DL.k_list_bool, DL.k_tuple_int, DL.k_tuple_str, DL.k_tuple_tuple, DL.k_tuple_list, DL.k_tuple_bool, DL.k_dict_int, DL.k_dict_str, DL.k_dict_tuple, DL.k_dict_list, DL.k_dict_bool, DL.runDef, DL.sSeq, DL.sIf, DL.sE, DL.sSet, DL.sRet, DL.sNx, DL.sPar, DL.assign, DL.free_z, DL.free_s, DL.okB_u, DL.okB_v, DL.okB_o, DL.fresh, DL.toD, DL.peek, DL.peeks, DL.giv, DL.eC, DL.eVar, DL.eUn, DL.eBin, DL.eT, DL.eB, DL.tNotE, DL.tAndE, DL.tOrE, DL.eIf, DL.eNot, DL.eAnd, DL.eOr, DL.eChain, DL.eDs, DL.eTup, DL.eLst, DL.eVs, DL.eBi, DL.eDct, DL.eKs, DL.mergeD, DL.sPut, DL.sFor, DL.sAsg, DL.tgN, DL.tgT, DL.tgs, DL.eMut, DL.gAppend, DL.eM1, DL.eFmt, DL.eJs, DL.eSl, DL.ePart, DL.gIx, DL.keyD, DL.gAdd, DL.gSub, DL.gMul, DL.gMod, DL.gDiv, DL.gPow, DL.gLt, DL.gLe, DL.gGt, DL.gGe, DL.gIs, DL.gIsNot, DL.isNon, DL.gIsi, DL.tyD, DL.gLen, DL.gTuple, DL.sv, DL.truth, DL.eCall, DL.eArgs, DL.callF, DL.slotsOf, DL.countIo, DL.ioOf, DL.borsOf, DL.borOk, DL.back1, DL.putBack, DL.nolR, DL.nolM, DL.nolO, DL.fin, DL.ioM, DL.M.toD, DL.bind_ok, DL.bind_no, Option.bind_some, Option.bind_none, Option.map_some, Option.map_none, List.length_cons, List.length_nil, List.length_append, List.length_map, List.append_nil, List.nil_append, List.cons_append, List.map_cons, List.map_nil, List.replicate, List.getElem?_cons_zero, List.getElem?_cons_succ, List.getElem?_nil, List.set_cons_zero, List.set_cons_succ, Nat.zero_add, Nat.add_zero, Nat.reduceAdd, Nat.reduceSub, if_true, if_false, Bool.not_true, Bool.not_false, Bool.and_self, Bool.and_true, Bool.true_and, Bool.or_true, Bool.true_or, Bool.false_or, Bool.or_false, List.isEmpty_nil, List.isEmpty_cons, if_pos, reduceIte, Bool.false_eq_true, eq_self, and_self, and_true, true_and, ↓reduceIte, Nat.le_refl, reduceCtorEq, Nat.sub_self, List.all_cons, List.all_nil, Bool.false_and, Nat.zero_le, Nat.reduceLeDiff, Nat.reduceEqDiff, Int.cast_ofNat_Int, Int.reduceLE, Int.reduceLT, Int.reduceEq, Int.reduceNe, Int.reduceAdd, Int.reduceSub, Int.reduceMul, Int.reduceNeg, Int.reduceToNat, decide_true, decide_false, ne_eq, not_true_eq_false, not_false_eq_true]
theorem deep_int (i : Int) : F_is_deep [.v (.int i)] = .ok (.v (.bl (decide (0 ≤ i) && decide (i ≤ 4)))) none := by
  simp only [F_is_deep, b_is_deep, among_int, DL.le_size, DL.lt_size, Int.reducePow, Nat.reducePow, Int.reduceLT, or_true, true_or, or_false, false_or, or_self, DL.k_NoneType_int, DL.k_NoneType_str, DL.k_NoneType_tuple, DL.k_NoneType_list, DL.k_NoneType_bool, DL.k_bool_int, DL.k_bool_str, DL.k_bool_tuple, DL.k_bool_list, DL.k_bool_bool, DL.k_int_int, DL.k_int_str, DL.k_int_tuple, DL.k_int_list, DL.k_int_bool, DL.k_str_int, DL.k_str_str, DL.k_str_tuple, DL.k_str_list, DL.k_str_bool, DL.k_list_int, DL.k_list_str, DL.k_list_tuple, DL.k_list_list, DL.k_list_bool, DL.k_tuple_int, DL.k_tuple_str, DL.k_tuple_tuple, DL.k_tuple_list, DL.k_tuple_bool, DL.k_dict_int, DL.k_dict_str, DL.k_dict_tuple, DL.k_dict_list, DL.k_dict_bool, DL.runDef, DL.sSeq, DL.sIf, DL.sE, DL.sSet, DL.sRet, DL.sNx, DL.sPar, DL.assign, DL.free_z, DL.free_s, DL.okB_u, DL.okB_v, DL.okB_o, DL.fresh, DL.toD, DL.peek, DL.peeks, DL.giv, DL.eC, DL.eVar, DL.eUn, DL.eBin, DL.eT, DL.eB, DL.tNotE, DL.tAndE, DL.tOrE, DL.eIf, DL.eNot, DL.eAnd, DL.eOr, DL.eChain, DL.eDs, DL.eTup, DL.eLst, DL.eVs, DL.eBi, DL.eDct, DL.eKs, DL.mergeD, DL.sPut, DL.sFor, DL.sAsg, DL.tgN, DL.tgT, DL.tgs, DL.eMut, DL.gAppend, DL.eM1, DL.eFmt, DL.eJs, DL.eSl, DL.ePart, DL.gIx, DL.keyD, DL.gAdd, DL.gSub, DL.gMul, DL.gMod, DL.gDiv, DL.gPow, DL.gLt, DL.gLe, DL.gGt, DL.gGe, DL.gIs, DL.gIsNot, DL.isNon, DL.gIsi, DL.tyD, DL.gLen, DL.gTuple, DL.sv, DL.truth, DL.eCall, DL.eArgs, DL.callF, DL.slotsOf, DL.countIo, DL.ioOf, DL.borsOf, DL.borOk, DL.back1, DL.putBack, DL.nolR, DL.nolM, DL.nolO, DL.fin, DL.ioM, DL.M.toD, DL.bind_ok, DL.bind_no, Option.bind_some, Option.bind_none, Option.map_some, Option.map_none, List.length_cons, List.length_nil, List.length_append, List.length_map, List.append_nil, List.nil_append, List.cons_append, List.map_cons, List.map_nil, List.replicate, List.getElem?_cons_zero, List.getElem?_cons_succ, List.getElem?_nil, List.set_cons_zero, List.set_cons_succ, Nat.zero_add, Nat.add_zero, Nat.reduceAdd, Nat.reduceSub, if_true, if_false, Bool.not_true, Bool.not_false, Bool.and_self, Bool.and_true, Bool.true_and, Bool.or_true, Bool.true_or, Bool.false_or, Bool.or_false, List.isEmpty_nil, List.isEmpty_cons, if_pos, reduceIte, Bool.false_eq_true, eq_self, and_self, and_true, true_and, ↓reduceIte, Nat.le_refl, reduceCtorEq, Nat.sub_self, List.all_cons, List.all_nil, Bool.false_and, Nat.zero_le, Nat.reduceLeDiff, Nat.reduceEqDiff, Int.cast_ofNat_Int, Int.reduceLE, Int.reduceLT, Int.reduceEq, Int.reduceNe, Int.reduceAdd, Int.reduceSub, Int.reduceMul, Int.reduceNeg, Int.reduceToNat, decide_true, decide_false, ne_eq, not_true_eq_false, not_false_eq_true]
/-! names -/
def okN (x : Str) : Prop := 1 ≤ x.length ∧ x.length ≤ 8 ∧ ∀ c ∈ x.cps.toList, 97 ≤ c ∧ c ≤ 122
def inAZ : D → D
  | .str x => .bl (!decide (x.cps.toList < [97]) && !decide ([122] < x.cps.toList))
  | d => d
theorem name_ok {x : Str} (h : okN x) : F_is_name [.v (.str x)] = .ok (.v (.bl true)) none := by
  obtain ⟨h1, h2, h3⟩ := h
  have l1 : x.length ≤ sizeLine := Nat.le_trans h2 (by decide)
  have c1 : (1 : Int) ≤ (x.length : Int) := by omega
  have c2 : (x.length : Int) ≤ 8 := by omega
  have lc : eLc [1] (tgN 1) (iSeq (eVar 0)) cYes e0_is_name [.v (.str x), .u] = .ok (.m (.l ((x.cps.toList.map fun c => .str ⟨#[c]⟩).map inAZ))) [.v (.str x), .u] := by
    refine eLc_map inAZ (by simp only [iSeq, DL.le_size, DL.lt_size, Int.reducePow, Nat.reducePow, Int.reduceLT, or_true, true_or, or_false, false_or, or_self, DL.k_NoneType_int, DL.k_NoneType_str, DL.k_NoneType_tuple, DL.k_NoneType_list, DL.k_NoneType_bool, DL.k_bool_int, DL.k_bool_str, DL.k_bool_tuple, DL.k_bool_list, DL.k_bool_bool, DL.k_int_int, DL.k_int_str, DL.k_int_tuple, DL.k_int_list, DL.k_int_bool, DL.k_str_int, DL.k_str_str, DL.k_str_tuple, DL.k_str_list, DL.k_str_bool, DL.k_list_int, DL.k_list_str, DL.k_list_tuple, DL.k_list_list, DL.k_list_bool, DL.k_tuple_int, DL.k_tuple_str, DL.k_tuple_tuple, DL.k_tuple_list, DL.k_tuple_bool, DL.k_dict_int, DL.k_dict_str, DL.k_dict_tuple, DL.k_dict_list, DL.k_dict_bool, DL.runDef, DL.sSeq, DL.sIf, DL.sE, DL.sSet, DL.sRet, DL.sNx, DL.sPar, DL.assign, DL.free_z, DL.free_s, DL.okB_u, DL.okB_v, DL.okB_o, DL.fresh, DL.toD, DL.peek, DL.peeks, DL.giv, DL.eC, DL.eVar, DL.eUn, DL.eBin, DL.eT, DL.eB, DL.tNotE, DL.tAndE, DL.tOrE, DL.eIf, DL.eNot, DL.eAnd, DL.eOr, DL.eChain, DL.eDs, DL.eTup, DL.eLst, DL.eVs, DL.eBi, DL.eDct, DL.eKs, DL.mergeD, DL.sPut, DL.sFor, DL.sAsg, DL.tgN, DL.tgT, DL.tgs, DL.eMut, DL.gAppend, DL.eM1, DL.eFmt, DL.eJs, DL.eSl, DL.ePart, DL.gIx, DL.keyD, DL.gAdd, DL.gSub, DL.gMul, DL.gMod, DL.gDiv, DL.gPow, DL.gLt, DL.gLe, DL.gGt, DL.gGe, DL.gIs, DL.gIsNot, DL.isNon, DL.gIsi, DL.tyD, DL.gLen, DL.gTuple, DL.sv, DL.truth, DL.eCall, DL.eArgs, DL.callF, DL.slotsOf, DL.countIo, DL.ioOf, DL.borsOf, DL.borOk, DL.back1, DL.putBack, DL.nolR, DL.nolM, DL.nolO, DL.fin, DL.ioM, DL.M.toD, DL.bind_ok, DL.bind_no, Option.bind_some, Option.bind_none, Option.map_some, Option.map_none, List.length_cons, List.length_nil, List.length_append, List.length_map, List.append_nil, List.nil_append, List.cons_append, List.map_cons, List.map_nil, List.replicate, List.getElem?_cons_zero, List.getElem?_cons_succ, List.getElem?_nil, List.set_cons_zero, List.set_cons_succ, Nat.zero_add, Nat.add_zero, Nat.reduceAdd, Nat.reduceSub, if_true, if_false, Bool.not_true, Bool.not_false, Bool.and_self, Bool.and_true, Bool.true_and, Bool.or_true, Bool.true_or, Bool.false_or, Bool.or_false, List.isEmpty_nil, List.isEmpty_cons, if_pos, reduceIte, Bool.false_eq_true, eq_self, and_self, and_true, true_and, ↓reduceIte, Nat.le_refl, reduceCtorEq, Nat.sub_self, List.all_cons, List.all_nil, Bool.false_and, Nat.zero_le, Nat.reduceLeDiff, Nat.reduceEqDiff, Int.cast_ofNat_Int, Int.reduceLE, Int.reduceLT, Int.reduceEq, Int.reduceNe, Int.reduceAdd, Int.reduceSub, Int.reduceMul, Int.reduceNeg, Int.reduceToNat, decide_true, decide_false, ne_eq, not_true_eq_false, not_false_eq_true]) rfl (by rw [List.length_map, Array.length_toList]; exact l1) fun d hd => ?_
    obtain ⟨c, hc, rfl⟩ := List.mem_map.mp hd
    refine ⟨[.v (.str x), .v (.str ⟨#[c]⟩)], rfl, rfl, ?_, rfl⟩
    have e1 : (Str.ofString "a").cps.toList = [97] := by decide +kernel
    have e2 : (Str.ofString "z").cps.toList = [122] := by decide +kernel
    simp only [e0_is_name, e1, e2, inAZ, DL.le_size, DL.lt_size, Int.reducePow, Nat.reducePow, Int.reduceLT, or_true, true_or, or_false, false_or, or_self, DL.k_NoneType_int, DL.k_NoneType_str, DL.k_NoneType_tuple, DL.k_NoneType_list, DL.k_NoneType_bool, DL.k_bool_int, DL.k_bool_str, DL.k_bool_tuple, DL.k_bool_list, DL.k_bool_bool, DL.k_int_int, DL.k_int_str, DL.k_int_tuple, DL.k_int_list, DL.k_int_bool, DL.k_str_int, DL.k_str_str, DL.k_str_tuple, DL.k_str_list, DL.k_str_bool, DL.k_list_int, DL.k_list_str, DL.k_list_tuple, DL.k_list_list, DL.k_list_bool, DL.k_tuple_int, DL.k_tuple_str, DL.k_tuple_tuple, DL.k_tuple_list, DL.k_tuple_bool, DL.k_dict_int, DL.k_dict_str, DL.k_dict_tuple, DL.k_dict_list, DL.k_dict_bool, DL.runDef, DL.sSeq, DL.sIf, DL.sE, DL.sSet, DL.sRet, DL.sNx, DL.sPar, DL.assign, DL.free_z, DL.free_s, DL.okB_u, DL.okB_v, DL.okB_o, DL.fresh, DL.toD, DL.peek, DL.peeks, DL.giv, DL.eC, DL.eVar, DL.eUn, DL.eBin, DL.eT, DL.eB, DL.tNotE, DL.tAndE, DL.tOrE, DL.eIf, DL.eNot, DL.eAnd, DL.eOr, DL.eChain, DL.eDs, DL.eTup, DL.eLst, DL.eVs, DL.eBi, DL.eDct, DL.eKs, DL.mergeD, DL.sPut, DL.sFor, DL.sAsg, DL.tgN, DL.tgT, DL.tgs, DL.eMut, DL.gAppend, DL.eM1, DL.eFmt, DL.eJs, DL.eSl, DL.ePart, DL.gIx, DL.keyD, DL.gAdd, DL.gSub, DL.gMul, DL.gMod, DL.gDiv, DL.gPow, DL.gLt, DL.gLe, DL.gGt, DL.gGe, DL.gIs, DL.gIsNot, DL.isNon, DL.gIsi, DL.tyD, DL.gLen, DL.gTuple, DL.sv, DL.truth, DL.eCall, DL.eArgs, DL.callF, DL.slotsOf, DL.countIo, DL.ioOf, DL.borsOf, DL.borOk, DL.back1, DL.putBack, DL.nolR, DL.nolM, DL.nolO, DL.fin, DL.ioM, DL.M.toD, DL.bind_ok, DL.bind_no, Option.bind_some, Option.bind_none, Option.map_some, Option.map_none, List.length_cons, List.length_nil, List.length_append, List.length_map, List.append_nil, List.nil_append, List.cons_append, List.map_cons, List.map_nil, List.replicate, List.getElem?_cons_zero, List.getElem?_cons_succ, List.getElem?_nil, List.set_cons_zero, List.set_cons_succ, Nat.zero_add, Nat.add_zero, Nat.reduceAdd, Nat.reduceSub, if_true, if_false, Bool.not_true, Bool.not_false, Bool.and_self, Bool.and_true, Bool.true_and, Bool.or_true, Bool.true_or, Bool.false_or, Bool.or_false, List.isEmpty_nil, List.isEmpty_cons, if_pos, reduceIte, Bool.false_eq_true, eq_self, and_self, and_true, true_and, ↓reduceIte, Nat.le_refl, reduceCtorEq, Nat.sub_self, List.all_cons, List.all_nil, Bool.false_and, Nat.zero_le, Nat.reduceLeDiff, Nat.reduceEqDiff, Int.cast_ofNat_Int, Int.reduceLE, Int.reduceLT, Int.reduceEq, Int.reduceNe, Int.reduceAdd, Int.reduceSub, Int.reduceMul, Int.reduceNeg, Int.reduceToNat, decide_true, decide_false, ne_eq, not_true_eq_false, not_false_eq_true]
    have := h3 c hc
    have q1 : decide ([c] < [97]) = false := by rw [lt1]; exact decide_eq_false (by omega)
    simp only [q1, DL.le_size, DL.lt_size, Int.reducePow, Nat.reducePow, Int.reduceLT, or_true, true_or, or_false, false_or, or_self, DL.k_NoneType_int, DL.k_NoneType_str, DL.k_NoneType_tuple, DL.k_NoneType_list, DL.k_NoneType_bool, DL.k_bool_int, DL.k_bool_str, DL.k_bool_tuple, DL.k_bool_list, DL.k_bool_bool, DL.k_int_int, DL.k_int_str, DL.k_int_tuple, DL.k_int_list, DL.k_int_bool, DL.k_str_int, DL.k_str_str, DL.k_str_tuple, DL.k_str_list, DL.k_str_bool, DL.k_list_int, DL.k_list_str, DL.k_list_tuple, DL.k_list_list, DL.k_list_bool, DL.k_tuple_int, DL.k_tuple_str, DL.k_tuple_tuple, DL.k_tuple_list, DL.k_tuple_bool, DL.k_dict_int, DL.k_dict_str, DL.k_dict_tuple, DL.k_dict_list, DL.k_dict_bool, DL.runDef, DL.sSeq, DL.sIf, DL.sE, DL.sSet, DL.sRet, DL.sNx, DL.sPar, DL.assign, DL.free_z, DL.free_s, DL.okB_u, DL.okB_v, DL.okB_o, DL.fresh, DL.toD, DL.peek, DL.peeks, DL.giv, DL.eC, DL.eVar, DL.eUn, DL.eBin, DL.eT, DL.eB, DL.tNotE, DL.tAndE, DL.tOrE, DL.eIf, DL.eNot, DL.eAnd, DL.eOr, DL.eChain, DL.eDs, DL.eTup, DL.eLst, DL.eVs, DL.eBi, DL.eDct, DL.eKs, DL.mergeD, DL.sPut, DL.sFor, DL.sAsg, DL.tgN, DL.tgT, DL.tgs, DL.eMut, DL.gAppend, DL.eM1, DL.eFmt, DL.eJs, DL.eSl, DL.ePart, DL.gIx, DL.keyD, DL.gAdd, DL.gSub, DL.gMul, DL.gMod, DL.gDiv, DL.gPow, DL.gLt, DL.gLe, DL.gGt, DL.gGe, DL.gIs, DL.gIsNot, DL.isNon, DL.gIsi, DL.tyD, DL.gLen, DL.gTuple, DL.sv, DL.truth, DL.eCall, DL.eArgs, DL.callF, DL.slotsOf, DL.countIo, DL.ioOf, DL.borsOf, DL.borOk, DL.back1, DL.putBack, DL.nolR, DL.nolM, DL.nolO, DL.fin, DL.ioM, DL.M.toD, DL.bind_ok, DL.bind_no, Option.bind_some, Option.bind_none, Option.map_some, Option.map_none, List.length_cons, List.length_nil, List.length_append, List.length_map, List.append_nil, List.nil_append, List.cons_append, List.map_cons, List.map_nil, List.replicate, List.getElem?_cons_zero, List.getElem?_cons_succ, List.getElem?_nil, List.set_cons_zero, List.set_cons_succ, Nat.zero_add, Nat.add_zero, Nat.reduceAdd, Nat.reduceSub, if_true, if_false, Bool.not_true, Bool.not_false, Bool.and_self, Bool.and_true, Bool.true_and, Bool.or_true, Bool.true_or, Bool.false_or, Bool.or_false, List.isEmpty_nil, List.isEmpty_cons, if_pos, reduceIte, Bool.false_eq_true, eq_self, and_self, and_true, true_and, ↓reduceIte, Nat.le_refl, reduceCtorEq, Nat.sub_self, List.all_cons, List.all_nil, Bool.false_and, Nat.zero_le, Nat.reduceLeDiff, Nat.reduceEqDiff, Int.cast_ofNat_Int, Int.reduceLE, Int.reduceLT, Int.reduceEq, Int.reduceNe, Int.reduceAdd, Int.reduceSub, Int.reduceMul, Int.reduceNeg, Int.reduceToNat, decide_true, decide_false, ne_eq, not_true_eq_false, not_false_eq_true]
  have al : blsD ((x.cps.toList.map fun c => .str ⟨#[c]⟩).map inAZ) = some (x.cps.toList.map fun c => true) := by
    rw [List.map_map, ← bls_map]
    congr 1
    refine List.map_congr_left fun c hc => ?_
    have := h3 c hc
    show inAZ (.str ⟨#[c]⟩) = .bl true
    have q1 : decide ([c] < [97]) = false := by rw [lt1]; exact decide_eq_false (by omega)
    have q2 : decide ([122] < [c]) = false := by rw [lt1]; exact decide_eq_false (by omega)
    simp only [inAZ, q1, q2, DL.le_size, DL.lt_size, Int.reducePow, Nat.reducePow, Int.reduceLT, or_true, true_or, or_false, false_or, or_self, DL.k_NoneType_int, DL.k_NoneType_str, DL.k_NoneType_tuple, DL.k_NoneType_list, DL.k_NoneType_bool, DL.k_bool_int, DL.k_bool_str, DL.k_bool_tuple, DL.k_bool_list, DL.k_bool_bool, DL.k_int_int, DL.k_int_str, DL.k_int_tuple, DL.k_int_list, DL.k_int_bool, DL.k_str_int, DL.k_str_str, DL.k_str_tuple, DL.k_str_list, DL.k_str_bool, DL.k_list_int, DL.k_list_str, DL.k_list_tuple, DL.k_list_list, DL.k_list_bool, DL.k_tuple_int, DL.k_tuple_str, DL.k_tuple_tuple, DL.k_tuple_list, DL.k_tuple_bool, DL.k_dict_int, DL.k_dict_str, DL.k_dict_tuple, DL.k_dict_list, DL.k_dict_bool, DL.runDef, DL.sSeq, DL.sIf, DL.sE, DL.sSet, DL.sRet, DL.sNx, DL.sPar, DL.assign, DL.free_z, DL.free_s, DL.okB_u, DL.okB_v, DL.okB_o, DL.fresh, DL.toD, DL.peek, DL.peeks, DL.giv, DL.eC, DL.eVar, DL.eUn, DL.eBin, DL.eT, DL.eB, DL.tNotE, DL.tAndE, DL.tOrE, DL.eIf, DL.eNot, DL.eAnd, DL.eOr, DL.eChain, DL.eDs, DL.eTup, DL.eLst, DL.eVs, DL.eBi, DL.eDct, DL.eKs, DL.mergeD, DL.sPut, DL.sFor, DL.sAsg, DL.tgN, DL.tgT, DL.tgs, DL.eMut, DL.gAppend, DL.eM1, DL.eFmt, DL.eJs, DL.eSl, DL.ePart, DL.gIx, DL.keyD, DL.gAdd, DL.gSub, DL.gMul, DL.gMod, DL.gDiv, DL.gPow, DL.gLt, DL.gLe, DL.gGt, DL.gGe, DL.gIs, DL.gIsNot, DL.isNon, DL.gIsi, DL.tyD, DL.gLen, DL.gTuple, DL.sv, DL.truth, DL.eCall, DL.eArgs, DL.callF, DL.slotsOf, DL.countIo, DL.ioOf, DL.borsOf, DL.borOk, DL.back1, DL.putBack, DL.nolR, DL.nolM, DL.nolO, DL.fin, DL.ioM, DL.M.toD, DL.bind_ok, DL.bind_no, Option.bind_some, Option.bind_none, Option.map_some, Option.map_none, List.length_cons, List.length_nil, List.length_append, List.length_map, List.append_nil, List.nil_append, List.cons_append, List.map_cons, List.map_nil, List.replicate, List.getElem?_cons_zero, List.getElem?_cons_succ, List.getElem?_nil, List.set_cons_zero, List.set_cons_succ, Nat.zero_add, Nat.add_zero, Nat.reduceAdd, Nat.reduceSub, if_true, if_false, Bool.not_true, Bool.not_false, Bool.and_self, Bool.and_true, Bool.true_and, Bool.or_true, Bool.true_or, Bool.false_or, Bool.or_false, List.isEmpty_nil, List.isEmpty_cons, if_pos, reduceIte, Bool.false_eq_true, eq_self, and_self, and_true, true_and, ↓reduceIte, Nat.le_refl, reduceCtorEq, Nat.sub_self, List.all_cons, List.all_nil, Bool.false_and, Nat.zero_le, Nat.reduceLeDiff, Nat.reduceEqDiff, Int.cast_ofNat_Int, Int.reduceLE, Int.reduceLT, Int.reduceEq, Int.reduceNe, Int.reduceAdd, Int.reduceSub, Int.reduceMul, Int.reduceNeg, Int.reduceToNat, decide_true, decide_false, ne_eq, not_true_eq_false, not_false_eq_true]
  simp only [F_is_name, b_is_name, l1, c1, c2, lc, gAll, al, DL.le_size, DL.lt_size, Int.reducePow, Nat.reducePow, Int.reduceLT, or_true, true_or, or_false, false_or, or_self, DL.k_NoneType_int, DL.k_NoneType_str, DL.k_NoneType_tuple, DL.k_NoneType_list, DL.k_NoneType_bool, DL.k_bool_int, DL.k_bool_str, DL.k_bool_tuple, DL.k_bool_list, DL.k_bool_bool, DL.k_int_int, DL.k_int_str, DL.k_int_tuple, DL.k_int_list, DL.k_int_bool, DL.k_str_int, DL.k_str_str, DL.k_str_tuple, DL.k_str_list, DL.k_str_bool, DL.k_list_int, DL.k_list_str, DL.k_list_tuple, DL.k_list_list, DL.k_list_bool, DL.k_tuple_int, DL.k_tuple_str, DL.k_tuple_tuple, DL.k_tuple_list, DL.k_tuple_bool, DL.k_dict_int, DL.k_dict_str, DL.k_dict_tuple, DL.k_dict_list, DL.k_dict_bool, DL.runDef, DL.sSeq, DL.sIf, DL.sE, DL.sSet, DL.sRet, DL.sNx, DL.sPar, DL.assign, DL.free_z, DL.free_s, DL.okB_u, DL.okB_v, DL.okB_o, DL.fresh, DL.toD, DL.peek, DL.peeks, DL.giv, DL.eC, DL.eVar, DL.eUn, DL.eBin, DL.eT, DL.eB, DL.tNotE, DL.tAndE, DL.tOrE, DL.eIf, DL.eNot, DL.eAnd, DL.eOr, DL.eChain, DL.eDs, DL.eTup, DL.eLst, DL.eVs, DL.eBi, DL.eDct, DL.eKs, DL.mergeD, DL.sPut, DL.sFor, DL.sAsg, DL.tgN, DL.tgT, DL.tgs, DL.eMut, DL.gAppend, DL.eM1, DL.eFmt, DL.eJs, DL.eSl, DL.ePart, DL.gIx, DL.keyD, DL.gAdd, DL.gSub, DL.gMul, DL.gMod, DL.gDiv, DL.gPow, DL.gLt, DL.gLe, DL.gGt, DL.gGe, DL.gIs, DL.gIsNot, DL.isNon, DL.gIsi, DL.tyD, DL.gLen, DL.gTuple, DL.sv, DL.truth, DL.eCall, DL.eArgs, DL.callF, DL.slotsOf, DL.countIo, DL.ioOf, DL.borsOf, DL.borOk, DL.back1, DL.putBack, DL.nolR, DL.nolM, DL.nolO, DL.fin, DL.ioM, DL.M.toD, DL.bind_ok, DL.bind_no, Option.bind_some, Option.bind_none, Option.map_some, Option.map_none, List.length_cons, List.length_nil, List.length_append, List.length_map, List.append_nil, List.nil_append, List.cons_append, List.map_cons, List.map_nil, List.replicate, List.getElem?_cons_zero, List.getElem?_cons_succ, List.getElem?_nil, List.set_cons_zero, List.set_cons_succ, Nat.zero_add, Nat.add_zero, Nat.reduceAdd, Nat.reduceSub, if_true, if_false, Bool.not_true, Bool.not_false, Bool.and_self, Bool.and_true, Bool.true_and, Bool.or_true, Bool.true_or, Bool.false_or, Bool.or_false, List.isEmpty_nil, List.isEmpty_cons, if_pos, reduceIte, Bool.false_eq_true, eq_self, and_self, and_true, true_and, ↓reduceIte, Nat.le_refl, reduceCtorEq, Nat.sub_self, List.all_cons, List.all_nil, Bool.false_and, Nat.zero_le, Nat.reduceLeDiff, Nat.reduceEqDiff, Int.cast_ofNat_Int, Int.reduceLE, Int.reduceLT, Int.reduceEq, Int.reduceNe, Int.reduceAdd, Int.reduceSub, Int.reduceMul, Int.reduceNeg, Int.reduceToNat, decide_true, decide_false, ne_eq, not_true_eq_false, not_false_eq_true]
  simp
/-! numbers written and read -/
def isI : Ret → Int → Bool
  | .ok (.v (.int j)) none, i => i == j
  | _, _ => false
theorem isI_eq {r : Ret} {i : Int} (h : isI r i = true) : r = .ok (.v (.int i)) none := by
  unfold isI at h
  split at h
  · simp at h; subst h; rfl
  · cases h
theorem num_small : ∀ n : Fin 61, isI (F_number_of [.v (.str (toString (n.val : Int)))]) n.val = true := by decide +kernel
/-! draws -/
theorem pick4 (t : Int) : ∃ M : Int, 0 < M ∧ M < 2147483648 ∧ L2.atI [D.int 1000000007, .int 998244353, .int 2147483629, .int 1000000009] (t % 4) = some (.int M) := by
  have h : t % 4 = 0 ∨ t % 4 = 1 ∨ t % 4 = 2 ∨ t % 4 = 3 := by omega
  rcases h with h | h | h | h
  · exact ⟨1000000007, by decide, by decide, by rw [h]; rfl⟩
  · exact ⟨998244353, by decide, by decide, by rw [h]; rfl⟩
  · exact ⟨2147483629, by decide, by decide, by rw [h]; rfl⟩
  · exact ⟨1000000009, by decide, by decide, by rw [h]; rfl⟩
theorem mixed_ok (c t : Int) (h0 : 0 ≤ t) (h1 : t < 2 ^ 40) : ∃ r : Int, 0 ≤ r ∧ r < 2147483647 ∧ F__law_mixed [.v (.int c), .v (.int t)] = .ok (.v (.int r)) none := by
  obtain ⟨M, m0, m1, hM⟩ := pick4 t
  have a0 := Int.emod_nonneg c (show M ≠ 0 by omega)
  have a1 := Int.emod_lt_of_pos c m0
  have b1 : -18446744073709551616 < c % M + 7919 * t + 13 := by omega
  have b2 : c % M + 7919 * t + 13 < 18446744073709551616 := by omega
  refine ⟨(c % M + 7919 * t + 13) * (c % M + 7919 * t + 13) % 2147483647 * 48271 % 2147483647, Int.emod_nonneg _ (by decide), Int.emod_lt_of_pos _ (by decide), ?_⟩
  simp only [F__law_mixed, b__law_mixed, hM, m0, b1, b2, DL.le_size, DL.lt_size, Int.reducePow, Nat.reducePow, Int.reduceLT, or_true, true_or, or_false, false_or, or_self, DL.k_NoneType_int, DL.k_NoneType_str, DL.k_NoneType_tuple, DL.k_NoneType_list, DL.k_NoneType_bool, DL.k_bool_int, DL.k_bool_str, DL.k_bool_tuple, DL.k_bool_list, DL.k_bool_bool, DL.k_int_int, DL.k_int_str, DL.k_int_tuple, DL.k_int_list, DL.k_int_bool, DL.k_str_int, DL.k_str_str, DL.k_str_tuple, DL.k_str_list, DL.k_str_bool, DL.k_list_int, DL.k_list_str, DL.k_list_tuple, DL.k_list_list, DL.k_list_bool, DL.k_tuple_int, DL.k_tuple_str, DL.k_tuple_tuple, DL.k_tuple_list, DL.k_tuple_bool, DL.k_dict_int, DL.k_dict_str, DL.k_dict_tuple, DL.k_dict_list, DL.k_dict_bool, DL.runDef, DL.sSeq, DL.sIf, DL.sE, DL.sSet, DL.sRet, DL.sNx, DL.sPar, DL.assign, DL.free_z, DL.free_s, DL.okB_u, DL.okB_v, DL.okB_o, DL.fresh, DL.toD, DL.peek, DL.peeks, DL.giv, DL.eC, DL.eVar, DL.eUn, DL.eBin, DL.eT, DL.eB, DL.tNotE, DL.tAndE, DL.tOrE, DL.eIf, DL.eNot, DL.eAnd, DL.eOr, DL.eChain, DL.eDs, DL.eTup, DL.eLst, DL.eVs, DL.eBi, DL.eDct, DL.eKs, DL.mergeD, DL.sPut, DL.sFor, DL.sAsg, DL.tgN, DL.tgT, DL.tgs, DL.eMut, DL.gAppend, DL.eM1, DL.eFmt, DL.eJs, DL.eSl, DL.ePart, DL.gIx, DL.keyD, DL.gAdd, DL.gSub, DL.gMul, DL.gMod, DL.gDiv, DL.gPow, DL.gLt, DL.gLe, DL.gGt, DL.gGe, DL.gIs, DL.gIsNot, DL.isNon, DL.gIsi, DL.tyD, DL.gLen, DL.gTuple, DL.sv, DL.truth, DL.eCall, DL.eArgs, DL.callF, DL.slotsOf, DL.countIo, DL.ioOf, DL.borsOf, DL.borOk, DL.back1, DL.putBack, DL.nolR, DL.nolM, DL.nolO, DL.fin, DL.ioM, DL.M.toD, DL.bind_ok, DL.bind_no, Option.bind_some, Option.bind_none, Option.map_some, Option.map_none, List.length_cons, List.length_nil, List.length_append, List.length_map, List.append_nil, List.nil_append, List.cons_append, List.map_cons, List.map_nil, List.replicate, List.getElem?_cons_zero, List.getElem?_cons_succ, List.getElem?_nil, List.set_cons_zero, List.set_cons_succ, Nat.zero_add, Nat.add_zero, Nat.reduceAdd, Nat.reduceSub, if_true, if_false, Bool.not_true, Bool.not_false, Bool.and_self, Bool.and_true, Bool.true_and, Bool.or_true, Bool.true_or, Bool.false_or, Bool.or_false, List.isEmpty_nil, List.isEmpty_cons, if_pos, reduceIte, Bool.false_eq_true, eq_self, and_self, and_true, true_and, ↓reduceIte, Nat.le_refl, reduceCtorEq, Nat.sub_self, List.all_cons, List.all_nil, Bool.false_and, Nat.zero_le, Nat.reduceLeDiff, Nat.reduceEqDiff, Int.cast_ofNat_Int, Int.reduceLE, Int.reduceLT, Int.reduceEq, Int.reduceNe, Int.reduceAdd, Int.reduceSub, Int.reduceMul, Int.reduceNeg, Int.reduceToNat, decide_true, decide_false, ne_eq, not_true_eq_false, not_false_eq_true]
def stD (l c t : Int) : List (Key × D) := [(.inr "left", .int l), (.inr "cell", .int c), (.inr "turns", .int t)]
theorem st_l (l c t : Int) : valD (stD l c t) (.inr "left") = some (.int l) := rfl
theorem st_c (l c t : Int) : valD (stD l c t) (.inr "cell") = some (.int c) := rfl
theorem st_t (l c t : Int) : valD (stD l c t) (.inr "turns") = some (.int t) := rfl
theorem st_pl (l c t x : Int) : putD (stD l c t) (.inr "left") (.int x) = stD x c t := rfl
theorem st_pt (l c t x : Int) : putD (stD l c t) (.inr "turns") (.int x) = stD l c x := rfl
theorem st_len (l c t : Int) : (stD l c t).length = 3 := rfl
theorem draw_ok (c k : Int) : ∃ l, F__law_draw [.v (.int c), .v (.int k)] = .ok (.m (.d (stD l c (1000 * k)))) none := by
  by_cases h : (1000000000000000000 : Int) ≤ c
  · refine ⟨c, ?_⟩
    simp only [F__law_draw, b__law_draw, h, DL.le_size, DL.lt_size, Int.reducePow, Nat.reducePow, Int.reduceLT, or_true, true_or, or_false, false_or, or_self, DL.k_NoneType_int, DL.k_NoneType_str, DL.k_NoneType_tuple, DL.k_NoneType_list, DL.k_NoneType_bool, DL.k_bool_int, DL.k_bool_str, DL.k_bool_tuple, DL.k_bool_list, DL.k_bool_bool, DL.k_int_int, DL.k_int_str, DL.k_int_tuple, DL.k_int_list, DL.k_int_bool, DL.k_str_int, DL.k_str_str, DL.k_str_tuple, DL.k_str_list, DL.k_str_bool, DL.k_list_int, DL.k_list_str, DL.k_list_tuple, DL.k_list_list, DL.k_list_bool, DL.k_tuple_int, DL.k_tuple_str, DL.k_tuple_tuple, DL.k_tuple_list, DL.k_tuple_bool, DL.k_dict_int, DL.k_dict_str, DL.k_dict_tuple, DL.k_dict_list, DL.k_dict_bool, DL.runDef, DL.sSeq, DL.sIf, DL.sE, DL.sSet, DL.sRet, DL.sNx, DL.sPar, DL.assign, DL.free_z, DL.free_s, DL.okB_u, DL.okB_v, DL.okB_o, DL.fresh, DL.toD, DL.peek, DL.peeks, DL.giv, DL.eC, DL.eVar, DL.eUn, DL.eBin, DL.eT, DL.eB, DL.tNotE, DL.tAndE, DL.tOrE, DL.eIf, DL.eNot, DL.eAnd, DL.eOr, DL.eChain, DL.eDs, DL.eTup, DL.eLst, DL.eVs, DL.eBi, DL.eDct, DL.eKs, DL.mergeD, DL.sPut, DL.sFor, DL.sAsg, DL.tgN, DL.tgT, DL.tgs, DL.eMut, DL.gAppend, DL.eM1, DL.eFmt, DL.eJs, DL.eSl, DL.ePart, DL.gIx, DL.keyD, DL.gAdd, DL.gSub, DL.gMul, DL.gMod, DL.gDiv, DL.gPow, DL.gLt, DL.gLe, DL.gGt, DL.gGe, DL.gIs, DL.gIsNot, DL.isNon, DL.gIsi, DL.tyD, DL.gLen, DL.gTuple, DL.sv, DL.truth, DL.eCall, DL.eArgs, DL.callF, DL.slotsOf, DL.countIo, DL.ioOf, DL.borsOf, DL.borOk, DL.back1, DL.putBack, DL.nolR, DL.nolM, DL.nolO, DL.fin, DL.ioM, DL.M.toD, DL.bind_ok, DL.bind_no, Option.bind_some, Option.bind_none, Option.map_some, Option.map_none, List.length_cons, List.length_nil, List.length_append, List.length_map, List.append_nil, List.nil_append, List.cons_append, List.map_cons, List.map_nil, List.replicate, List.getElem?_cons_zero, List.getElem?_cons_succ, List.getElem?_nil, List.set_cons_zero, List.set_cons_succ, Nat.zero_add, Nat.add_zero, Nat.reduceAdd, Nat.reduceSub, if_true, if_false, Bool.not_true, Bool.not_false, Bool.and_self, Bool.and_true, Bool.true_and, Bool.or_true, Bool.true_or, Bool.false_or, Bool.or_false, List.isEmpty_nil, List.isEmpty_cons, if_pos, reduceIte, Bool.false_eq_true, eq_self, and_self, and_true, true_and, ↓reduceIte, Nat.le_refl, reduceCtorEq, Nat.sub_self, List.all_cons, List.all_nil, Bool.false_and, Nat.zero_le, Nat.reduceLeDiff, Nat.reduceEqDiff, Int.cast_ofNat_Int, Int.reduceLE, Int.reduceLT, Int.reduceEq, Int.reduceNe, Int.reduceAdd, Int.reduceSub, Int.reduceMul, Int.reduceNeg, Int.reduceToNat, decide_true, decide_false, ne_eq, not_true_eq_false, not_false_eq_true]
    rfl
  · refine ⟨0, ?_⟩
    simp only [F__law_draw, b__law_draw, decide_eq_false h, DL.le_size, DL.lt_size, Int.reducePow, Nat.reducePow, Int.reduceLT, or_true, true_or, or_false, false_or, or_self, DL.k_NoneType_int, DL.k_NoneType_str, DL.k_NoneType_tuple, DL.k_NoneType_list, DL.k_NoneType_bool, DL.k_bool_int, DL.k_bool_str, DL.k_bool_tuple, DL.k_bool_list, DL.k_bool_bool, DL.k_int_int, DL.k_int_str, DL.k_int_tuple, DL.k_int_list, DL.k_int_bool, DL.k_str_int, DL.k_str_str, DL.k_str_tuple, DL.k_str_list, DL.k_str_bool, DL.k_list_int, DL.k_list_str, DL.k_list_tuple, DL.k_list_list, DL.k_list_bool, DL.k_tuple_int, DL.k_tuple_str, DL.k_tuple_tuple, DL.k_tuple_list, DL.k_tuple_bool, DL.k_dict_int, DL.k_dict_str, DL.k_dict_tuple, DL.k_dict_list, DL.k_dict_bool, DL.runDef, DL.sSeq, DL.sIf, DL.sE, DL.sSet, DL.sRet, DL.sNx, DL.sPar, DL.assign, DL.free_z, DL.free_s, DL.okB_u, DL.okB_v, DL.okB_o, DL.fresh, DL.toD, DL.peek, DL.peeks, DL.giv, DL.eC, DL.eVar, DL.eUn, DL.eBin, DL.eT, DL.eB, DL.tNotE, DL.tAndE, DL.tOrE, DL.eIf, DL.eNot, DL.eAnd, DL.eOr, DL.eChain, DL.eDs, DL.eTup, DL.eLst, DL.eVs, DL.eBi, DL.eDct, DL.eKs, DL.mergeD, DL.sPut, DL.sFor, DL.sAsg, DL.tgN, DL.tgT, DL.tgs, DL.eMut, DL.gAppend, DL.eM1, DL.eFmt, DL.eJs, DL.eSl, DL.ePart, DL.gIx, DL.keyD, DL.gAdd, DL.gSub, DL.gMul, DL.gMod, DL.gDiv, DL.gPow, DL.gLt, DL.gLe, DL.gGt, DL.gGe, DL.gIs, DL.gIsNot, DL.isNon, DL.gIsi, DL.tyD, DL.gLen, DL.gTuple, DL.sv, DL.truth, DL.eCall, DL.eArgs, DL.callF, DL.slotsOf, DL.countIo, DL.ioOf, DL.borsOf, DL.borOk, DL.back1, DL.putBack, DL.nolR, DL.nolM, DL.nolO, DL.fin, DL.ioM, DL.M.toD, DL.bind_ok, DL.bind_no, Option.bind_some, Option.bind_none, Option.map_some, Option.map_none, List.length_cons, List.length_nil, List.length_append, List.length_map, List.append_nil, List.nil_append, List.cons_append, List.map_cons, List.map_nil, List.replicate, List.getElem?_cons_zero, List.getElem?_cons_succ, List.getElem?_nil, List.set_cons_zero, List.set_cons_succ, Nat.zero_add, Nat.add_zero, Nat.reduceAdd, Nat.reduceSub, if_true, if_false, Bool.not_true, Bool.not_false, Bool.and_self, Bool.and_true, Bool.true_and, Bool.or_true, Bool.true_or, Bool.false_or, Bool.or_false, List.isEmpty_nil, List.isEmpty_cons, if_pos, reduceIte, Bool.false_eq_true, eq_self, and_self, and_true, true_and, ↓reduceIte, Nat.le_refl, reduceCtorEq, Nat.sub_self, List.all_cons, List.all_nil, Bool.false_and, Nat.zero_le, Nat.reduceLeDiff, Nat.reduceEqDiff, Int.cast_ofNat_Int, Int.reduceLE, Int.reduceLT, Int.reduceEq, Int.reduceNe, Int.reduceAdd, Int.reduceSub, Int.reduceMul, Int.reduceNeg, Int.reduceToNat, decide_true, decide_false, ne_eq, not_true_eq_false, not_false_eq_true]
    rfl
theorem int_eq (a b : Int) : gEq (.int a) (.int b) = some (.v (.bl (decide (a = b)))) := by
  rfl
abbrev dBody : DL.Env → Res Fl := f0__law_digit
theorem digit_ok (l c t m : Int) (h0 : 0 ≤ t) (h1 : t + 4 < 2 ^ 40) (m0 : 0 < m) (m1 : m < 1073741824) : ∃ r l' t' : Int, 0 ≤ r ∧ r < m ∧ t ≤ t' ∧ t' ≤ t + 4 ∧ F__law_digit [.o true false (.d (stD l c t)), .v (.int m)] = .ok (.v (.int r)) (some (.d (stD l' c t'))) := by
  have loop : ∃ e', forL (tgN 2) dBody ((List.range 4).map fun i => .int (0 + (i : Nat))) [.o true false (.d (stD l c t)), .v (.int m), .u, .u] = .ok .nx e' ∧ ∃ l' s, e' = [.o true false (.d (stD l' c (t + ((4 : Nat) : Int)))), .v (.int m), s, .u] ∧ okB s = true := by
    refine forL_run (fun i e => ∃ l' s, e = [.o true false (.d (stD l' c (t + (i : Int)))), .v (.int m), s, .u] ∧ okB s = true) ⟨l, .u, by simp, rfl⟩ fun i d e hd hi => ?_
    obtain ⟨l', s, rfl, hs⟩ := hi
    have il : i < 4 := (List.getElem?_eq_some_iff.mp hd).1
    obtain ⟨r, r0, r1, hr⟩ := mixed_ok c (t + (i : Int) + 1) (by omega) (by omega)
    refine ⟨[.o true false (.d (stD l' c (t + (i : Int)))), .v (.int m), .v d, .u], [.o true false (.d (stD (l' * 2147483647 + r) c (t + (i : Int) + 1))), .v (.int m), .v d, .u], by simp only [hs, DL.le_size, DL.lt_size, Int.reducePow, Nat.reducePow, Int.reduceLT, or_true, true_or, or_false, false_or, or_self, DL.k_NoneType_int, DL.k_NoneType_str, DL.k_NoneType_tuple, DL.k_NoneType_list, DL.k_NoneType_bool, DL.k_bool_int, DL.k_bool_str, DL.k_bool_tuple, DL.k_bool_list, DL.k_bool_bool, DL.k_int_int, DL.k_int_str, DL.k_int_tuple, DL.k_int_list, DL.k_int_bool, DL.k_str_int, DL.k_str_str, DL.k_str_tuple, DL.k_str_list, DL.k_str_bool, DL.k_list_int, DL.k_list_str, DL.k_list_tuple, DL.k_list_list, DL.k_list_bool, DL.k_tuple_int, DL.k_tuple_str, DL.k_tuple_tuple, DL.k_tuple_list, DL.k_tuple_bool, DL.k_dict_int, DL.k_dict_str, DL.k_dict_tuple, DL.k_dict_list, DL.k_dict_bool, DL.runDef, DL.sSeq, DL.sIf, DL.sE, DL.sSet, DL.sRet, DL.sNx, DL.sPar, DL.assign, DL.free_z, DL.free_s, DL.okB_u, DL.okB_v, DL.okB_o, DL.fresh, DL.toD, DL.peek, DL.peeks, DL.giv, DL.eC, DL.eVar, DL.eUn, DL.eBin, DL.eT, DL.eB, DL.tNotE, DL.tAndE, DL.tOrE, DL.eIf, DL.eNot, DL.eAnd, DL.eOr, DL.eChain, DL.eDs, DL.eTup, DL.eLst, DL.eVs, DL.eBi, DL.eDct, DL.eKs, DL.mergeD, DL.sPut, DL.sFor, DL.sAsg, DL.tgN, DL.tgT, DL.tgs, DL.eMut, DL.gAppend, DL.eM1, DL.eFmt, DL.eJs, DL.eSl, DL.ePart, DL.gIx, DL.keyD, DL.gAdd, DL.gSub, DL.gMul, DL.gMod, DL.gDiv, DL.gPow, DL.gLt, DL.gLe, DL.gGt, DL.gGe, DL.gIs, DL.gIsNot, DL.isNon, DL.gIsi, DL.tyD, DL.gLen, DL.gTuple, DL.sv, DL.truth, DL.eCall, DL.eArgs, DL.callF, DL.slotsOf, DL.countIo, DL.ioOf, DL.borsOf, DL.borOk, DL.back1, DL.putBack, DL.nolR, DL.nolM, DL.nolO, DL.fin, DL.ioM, DL.M.toD, DL.bind_ok, DL.bind_no, Option.bind_some, Option.bind_none, Option.map_some, Option.map_none, List.length_cons, List.length_nil, List.length_append, List.length_map, List.append_nil, List.nil_append, List.cons_append, List.map_cons, List.map_nil, List.replicate, List.getElem?_cons_zero, List.getElem?_cons_succ, List.getElem?_nil, List.set_cons_zero, List.set_cons_succ, Nat.zero_add, Nat.add_zero, Nat.reduceAdd, Nat.reduceSub, if_true, if_false, Bool.not_true, Bool.not_false, Bool.and_self, Bool.and_true, Bool.true_and, Bool.or_true, Bool.true_or, Bool.false_or, Bool.or_false, List.isEmpty_nil, List.isEmpty_cons, if_pos, reduceIte, Bool.false_eq_true, eq_self, and_self, and_true, true_and, ↓reduceIte, Nat.le_refl, reduceCtorEq, Nat.sub_self, List.all_cons, List.all_nil, Bool.false_and, Nat.zero_le, Nat.reduceLeDiff, Nat.reduceEqDiff, Int.cast_ofNat_Int, Int.reduceLE, Int.reduceLT, Int.reduceEq, Int.reduceNe, Int.reduceAdd, Int.reduceSub, Int.reduceMul, Int.reduceNeg, Int.reduceToNat, decide_true, decide_false, ne_eq, not_true_eq_false, not_false_eq_true], ?_, ⟨_, .v d, by rw [Int.natCast_add, ← Int.add_assoc]; rfl, rfl⟩⟩
    simp only [f0__law_digit, st_l, st_c, st_t, st_pl, st_pt, st_len, hr, DL.le_size, DL.lt_size, Int.reducePow, Nat.reducePow, Int.reduceLT, or_true, true_or, or_false, false_or, or_self, DL.k_NoneType_int, DL.k_NoneType_str, DL.k_NoneType_tuple, DL.k_NoneType_list, DL.k_NoneType_bool, DL.k_bool_int, DL.k_bool_str, DL.k_bool_tuple, DL.k_bool_list, DL.k_bool_bool, DL.k_int_int, DL.k_int_str, DL.k_int_tuple, DL.k_int_list, DL.k_int_bool, DL.k_str_int, DL.k_str_str, DL.k_str_tuple, DL.k_str_list, DL.k_str_bool, DL.k_list_int, DL.k_list_str, DL.k_list_tuple, DL.k_list_list, DL.k_list_bool, DL.k_tuple_int, DL.k_tuple_str, DL.k_tuple_tuple, DL.k_tuple_list, DL.k_tuple_bool, DL.k_dict_int, DL.k_dict_str, DL.k_dict_tuple, DL.k_dict_list, DL.k_dict_bool, DL.runDef, DL.sSeq, DL.sIf, DL.sE, DL.sSet, DL.sRet, DL.sNx, DL.sPar, DL.assign, DL.free_z, DL.free_s, DL.okB_u, DL.okB_v, DL.okB_o, DL.fresh, DL.toD, DL.peek, DL.peeks, DL.giv, DL.eC, DL.eVar, DL.eUn, DL.eBin, DL.eT, DL.eB, DL.tNotE, DL.tAndE, DL.tOrE, DL.eIf, DL.eNot, DL.eAnd, DL.eOr, DL.eChain, DL.eDs, DL.eTup, DL.eLst, DL.eVs, DL.eBi, DL.eDct, DL.eKs, DL.mergeD, DL.sPut, DL.sFor, DL.sAsg, DL.tgN, DL.tgT, DL.tgs, DL.eMut, DL.gAppend, DL.eM1, DL.eFmt, DL.eJs, DL.eSl, DL.ePart, DL.gIx, DL.keyD, DL.gAdd, DL.gSub, DL.gMul, DL.gMod, DL.gDiv, DL.gPow, DL.gLt, DL.gLe, DL.gGt, DL.gGe, DL.gIs, DL.gIsNot, DL.isNon, DL.gIsi, DL.tyD, DL.gLen, DL.gTuple, DL.sv, DL.truth, DL.eCall, DL.eArgs, DL.callF, DL.slotsOf, DL.countIo, DL.ioOf, DL.borsOf, DL.borOk, DL.back1, DL.putBack, DL.nolR, DL.nolM, DL.nolO, DL.fin, DL.ioM, DL.M.toD, DL.bind_ok, DL.bind_no, Option.bind_some, Option.bind_none, Option.map_some, Option.map_none, List.length_cons, List.length_nil, List.length_append, List.length_map, List.append_nil, List.nil_append, List.cons_append, List.map_cons, List.map_nil, List.replicate, List.getElem?_cons_zero, List.getElem?_cons_succ, List.getElem?_nil, List.set_cons_zero, List.set_cons_succ, Nat.zero_add, Nat.add_zero, Nat.reduceAdd, Nat.reduceSub, if_true, if_false, Bool.not_true, Bool.not_false, Bool.and_self, Bool.and_true, Bool.true_and, Bool.or_true, Bool.true_or, Bool.false_or, Bool.or_false, List.isEmpty_nil, List.isEmpty_cons, if_pos, reduceIte, Bool.false_eq_true, eq_self, and_self, and_true, true_and, ↓reduceIte, Nat.le_refl, reduceCtorEq, Nat.sub_self, List.all_cons, List.all_nil, Bool.false_and, Nat.zero_le, Nat.reduceLeDiff, Nat.reduceEqDiff, Int.cast_ofNat_Int, Int.reduceLE, Int.reduceLT, Int.reduceEq, Int.reduceNe, Int.reduceAdd, Int.reduceSub, Int.reduceMul, Int.reduceNeg, Int.reduceToNat, decide_true, decide_false, ne_eq, not_true_eq_false, not_false_eq_true]
  have first : ∃ l' t' s, okB s = true ∧ t ≤ t' ∧ t' ≤ t + 4 ∧ sIf (eB (eBin gEq (eBin gIx (eVar 0) (eC (.str "left"))) (eC (.int 0)))) (sFor (tgN 2) (iRange1 (eC (.int 4))) dBody) sNx [.o true false (.d (stD l c t)), .v (.int m), .u, .u] = .ok .nx [.o true false (.d (stD l' c t')), .v (.int m), s, .u] := by
    by_cases hz : l = 0
    · obtain ⟨e', he, l', s, rfl, hs⟩ := loop
      refine ⟨l', _, s, hs, ?_, ?_, Eq.trans ?_ he⟩
      · omega
      · omega
      · simp only [st_l, int_eq, iRange1, decide_eq_true hz, DL.le_size, DL.lt_size, Int.reducePow, Nat.reducePow, Int.reduceLT, or_true, true_or, or_false, false_or, or_self, DL.k_NoneType_int, DL.k_NoneType_str, DL.k_NoneType_tuple, DL.k_NoneType_list, DL.k_NoneType_bool, DL.k_bool_int, DL.k_bool_str, DL.k_bool_tuple, DL.k_bool_list, DL.k_bool_bool, DL.k_int_int, DL.k_int_str, DL.k_int_tuple, DL.k_int_list, DL.k_int_bool, DL.k_str_int, DL.k_str_str, DL.k_str_tuple, DL.k_str_list, DL.k_str_bool, DL.k_list_int, DL.k_list_str, DL.k_list_tuple, DL.k_list_list, DL.k_list_bool, DL.k_tuple_int, DL.k_tuple_str, DL.k_tuple_tuple, DL.k_tuple_list, DL.k_tuple_bool, DL.k_dict_int, DL.k_dict_str, DL.k_dict_tuple, DL.k_dict_list, DL.k_dict_bool, DL.runDef, DL.sSeq, DL.sIf, DL.sE, DL.sSet, DL.sRet, DL.sNx, DL.sPar, DL.assign, DL.free_z, DL.free_s, DL.okB_u, DL.okB_v, DL.okB_o, DL.fresh, DL.toD, DL.peek, DL.peeks, DL.giv, DL.eC, DL.eVar, DL.eUn, DL.eBin, DL.eT, DL.eB, DL.tNotE, DL.tAndE, DL.tOrE, DL.eIf, DL.eNot, DL.eAnd, DL.eOr, DL.eChain, DL.eDs, DL.eTup, DL.eLst, DL.eVs, DL.eBi, DL.eDct, DL.eKs, DL.mergeD, DL.sPut, DL.sFor, DL.sAsg, DL.tgN, DL.tgT, DL.tgs, DL.eMut, DL.gAppend, DL.eM1, DL.eFmt, DL.eJs, DL.eSl, DL.ePart, DL.gIx, DL.keyD, DL.gAdd, DL.gSub, DL.gMul, DL.gMod, DL.gDiv, DL.gPow, DL.gLt, DL.gLe, DL.gGt, DL.gGe, DL.gIs, DL.gIsNot, DL.isNon, DL.gIsi, DL.tyD, DL.gLen, DL.gTuple, DL.sv, DL.truth, DL.eCall, DL.eArgs, DL.callF, DL.slotsOf, DL.countIo, DL.ioOf, DL.borsOf, DL.borOk, DL.back1, DL.putBack, DL.nolR, DL.nolM, DL.nolO, DL.fin, DL.ioM, DL.M.toD, DL.bind_ok, DL.bind_no, Option.bind_some, Option.bind_none, Option.map_some, Option.map_none, List.length_cons, List.length_nil, List.length_append, List.length_map, List.append_nil, List.nil_append, List.cons_append, List.map_cons, List.map_nil, List.replicate, List.getElem?_cons_zero, List.getElem?_cons_succ, List.getElem?_nil, List.set_cons_zero, List.set_cons_succ, Nat.zero_add, Nat.add_zero, Nat.reduceAdd, Nat.reduceSub, if_true, if_false, Bool.not_true, Bool.not_false, Bool.and_self, Bool.and_true, Bool.true_and, Bool.or_true, Bool.true_or, Bool.false_or, Bool.or_false, List.isEmpty_nil, List.isEmpty_cons, if_pos, reduceIte, Bool.false_eq_true, eq_self, and_self, and_true, true_and, ↓reduceIte, Nat.le_refl, reduceCtorEq, Nat.sub_self, List.all_cons, List.all_nil, Bool.false_and, Nat.zero_le, Nat.reduceLeDiff, Nat.reduceEqDiff, Int.cast_ofNat_Int, Int.reduceLE, Int.reduceLT, Int.reduceEq, Int.reduceNe, Int.reduceAdd, Int.reduceSub, Int.reduceMul, Int.reduceNeg, Int.reduceToNat, decide_true, decide_false, ne_eq, not_true_eq_false, not_false_eq_true]
    · refine ⟨l, t, .u, rfl, Int.le_refl _, by omega, ?_⟩
      simp only [st_l, int_eq, decide_eq_false hz, DL.le_size, DL.lt_size, Int.reducePow, Nat.reducePow, Int.reduceLT, or_true, true_or, or_false, false_or, or_self, DL.k_NoneType_int, DL.k_NoneType_str, DL.k_NoneType_tuple, DL.k_NoneType_list, DL.k_NoneType_bool, DL.k_bool_int, DL.k_bool_str, DL.k_bool_tuple, DL.k_bool_list, DL.k_bool_bool, DL.k_int_int, DL.k_int_str, DL.k_int_tuple, DL.k_int_list, DL.k_int_bool, DL.k_str_int, DL.k_str_str, DL.k_str_tuple, DL.k_str_list, DL.k_str_bool, DL.k_list_int, DL.k_list_str, DL.k_list_tuple, DL.k_list_list, DL.k_list_bool, DL.k_tuple_int, DL.k_tuple_str, DL.k_tuple_tuple, DL.k_tuple_list, DL.k_tuple_bool, DL.k_dict_int, DL.k_dict_str, DL.k_dict_tuple, DL.k_dict_list, DL.k_dict_bool, DL.runDef, DL.sSeq, DL.sIf, DL.sE, DL.sSet, DL.sRet, DL.sNx, DL.sPar, DL.assign, DL.free_z, DL.free_s, DL.okB_u, DL.okB_v, DL.okB_o, DL.fresh, DL.toD, DL.peek, DL.peeks, DL.giv, DL.eC, DL.eVar, DL.eUn, DL.eBin, DL.eT, DL.eB, DL.tNotE, DL.tAndE, DL.tOrE, DL.eIf, DL.eNot, DL.eAnd, DL.eOr, DL.eChain, DL.eDs, DL.eTup, DL.eLst, DL.eVs, DL.eBi, DL.eDct, DL.eKs, DL.mergeD, DL.sPut, DL.sFor, DL.sAsg, DL.tgN, DL.tgT, DL.tgs, DL.eMut, DL.gAppend, DL.eM1, DL.eFmt, DL.eJs, DL.eSl, DL.ePart, DL.gIx, DL.keyD, DL.gAdd, DL.gSub, DL.gMul, DL.gMod, DL.gDiv, DL.gPow, DL.gLt, DL.gLe, DL.gGt, DL.gGe, DL.gIs, DL.gIsNot, DL.isNon, DL.gIsi, DL.tyD, DL.gLen, DL.gTuple, DL.sv, DL.truth, DL.eCall, DL.eArgs, DL.callF, DL.slotsOf, DL.countIo, DL.ioOf, DL.borsOf, DL.borOk, DL.back1, DL.putBack, DL.nolR, DL.nolM, DL.nolO, DL.fin, DL.ioM, DL.M.toD, DL.bind_ok, DL.bind_no, Option.bind_some, Option.bind_none, Option.map_some, Option.map_none, List.length_cons, List.length_nil, List.length_append, List.length_map, List.append_nil, List.nil_append, List.cons_append, List.map_cons, List.map_nil, List.replicate, List.getElem?_cons_zero, List.getElem?_cons_succ, List.getElem?_nil, List.set_cons_zero, List.set_cons_succ, Nat.zero_add, Nat.add_zero, Nat.reduceAdd, Nat.reduceSub, if_true, if_false, Bool.not_true, Bool.not_false, Bool.and_self, Bool.and_true, Bool.true_and, Bool.or_true, Bool.true_or, Bool.false_or, Bool.or_false, List.isEmpty_nil, List.isEmpty_cons, if_pos, reduceIte, Bool.false_eq_true, eq_self, and_self, and_true, true_and, ↓reduceIte, Nat.le_refl, reduceCtorEq, Nat.sub_self, List.all_cons, List.all_nil, Bool.false_and, Nat.zero_le, Nat.reduceLeDiff, Nat.reduceEqDiff, Int.cast_ofNat_Int, Int.reduceLE, Int.reduceLT, Int.reduceEq, Int.reduceNe, Int.reduceAdd, Int.reduceSub, Int.reduceMul, Int.reduceNeg, Int.reduceToNat, decide_true, decide_false, ne_eq, not_true_eq_false, not_false_eq_true]
  obtain ⟨l', t', s, hs, t1, t2, hf⟩ := first
  refine ⟨l' % m, l' / m, t', Int.emod_nonneg _ (by omega), Int.emod_lt_of_pos _ m0, t1, t2, ?_⟩
  refine (run_of (x := .v (.int (l' % m))) (e := [.o true false (.d (stD (l' / m) c t')), .v (.int m), s, .v (.int (l' % m))]) ?_).trans rfl
  refine (sSeq_nx hf).trans ?_
  simp only [st_l, st_c, st_t, st_pl, st_pt, st_len, m0, m1, DL.le_size, DL.lt_size, Int.reducePow, Nat.reducePow, Int.reduceLT, or_true, true_or, or_false, false_or, or_self, DL.k_NoneType_int, DL.k_NoneType_str, DL.k_NoneType_tuple, DL.k_NoneType_list, DL.k_NoneType_bool, DL.k_bool_int, DL.k_bool_str, DL.k_bool_tuple, DL.k_bool_list, DL.k_bool_bool, DL.k_int_int, DL.k_int_str, DL.k_int_tuple, DL.k_int_list, DL.k_int_bool, DL.k_str_int, DL.k_str_str, DL.k_str_tuple, DL.k_str_list, DL.k_str_bool, DL.k_list_int, DL.k_list_str, DL.k_list_tuple, DL.k_list_list, DL.k_list_bool, DL.k_tuple_int, DL.k_tuple_str, DL.k_tuple_tuple, DL.k_tuple_list, DL.k_tuple_bool, DL.k_dict_int, DL.k_dict_str, DL.k_dict_tuple, DL.k_dict_list, DL.k_dict_bool, DL.runDef, DL.sSeq, DL.sIf, DL.sE, DL.sSet, DL.sRet, DL.sNx, DL.sPar, DL.assign, DL.free_z, DL.free_s, DL.okB_u, DL.okB_v, DL.okB_o, DL.fresh, DL.toD, DL.peek, DL.peeks, DL.giv, DL.eC, DL.eVar, DL.eUn, DL.eBin, DL.eT, DL.eB, DL.tNotE, DL.tAndE, DL.tOrE, DL.eIf, DL.eNot, DL.eAnd, DL.eOr, DL.eChain, DL.eDs, DL.eTup, DL.eLst, DL.eVs, DL.eBi, DL.eDct, DL.eKs, DL.mergeD, DL.sPut, DL.sFor, DL.sAsg, DL.tgN, DL.tgT, DL.tgs, DL.eMut, DL.gAppend, DL.eM1, DL.eFmt, DL.eJs, DL.eSl, DL.ePart, DL.gIx, DL.keyD, DL.gAdd, DL.gSub, DL.gMul, DL.gMod, DL.gDiv, DL.gPow, DL.gLt, DL.gLe, DL.gGt, DL.gGe, DL.gIs, DL.gIsNot, DL.isNon, DL.gIsi, DL.tyD, DL.gLen, DL.gTuple, DL.sv, DL.truth, DL.eCall, DL.eArgs, DL.callF, DL.slotsOf, DL.countIo, DL.ioOf, DL.borsOf, DL.borOk, DL.back1, DL.putBack, DL.nolR, DL.nolM, DL.nolO, DL.fin, DL.ioM, DL.M.toD, DL.bind_ok, DL.bind_no, Option.bind_some, Option.bind_none, Option.map_some, Option.map_none, List.length_cons, List.length_nil, List.length_append, List.length_map, List.append_nil, List.nil_append, List.cons_append, List.map_cons, List.map_nil, List.replicate, List.getElem?_cons_zero, List.getElem?_cons_succ, List.getElem?_nil, List.set_cons_zero, List.set_cons_succ, Nat.zero_add, Nat.add_zero, Nat.reduceAdd, Nat.reduceSub, if_true, if_false, Bool.not_true, Bool.not_false, Bool.and_self, Bool.and_true, Bool.true_and, Bool.or_true, Bool.true_or, Bool.false_or, Bool.or_false, List.isEmpty_nil, List.isEmpty_cons, if_pos, reduceIte, Bool.false_eq_true, eq_self, and_self, and_true, true_and, ↓reduceIte, Nat.le_refl, reduceCtorEq, Nat.sub_self, List.all_cons, List.all_nil, Bool.false_and, Nat.zero_le, Nat.reduceLeDiff, Nat.reduceEqDiff, Int.cast_ofNat_Int, Int.reduceLE, Int.reduceLT, Int.reduceEq, Int.reduceNe, Int.reduceAdd, Int.reduceSub, Int.reduceMul, Int.reduceNeg, Int.reduceToNat, decide_true, decide_false, ne_eq, not_true_eq_false, not_false_eq_true]
/-- one sign of the alphabet -/
def aSign (d : D) : Prop := ∃ k : Nat, d = .str ⟨#[k]⟩ ∧ 97 ≤ k ∧ k ≤ 122
theorem alph : ∀ n : Fin 26, L2.atI (Str.ofString "abcdefghijklmnopqrstuvwxyz").cps.toList (n.val : Int) = some (97 + n.val) := by decide +kernel
theorem alph_at {r : Int} (h0 : 0 ≤ r) (h1 : r < 26) : L2.atI (Str.ofString "abcdefghijklmnopqrstuvwxyz").cps.toList r = some (97 + r.toNat) := by
  have := alph ⟨r.toNat, by omega⟩
  rwa [show ((⟨r.toNat, by omega⟩ : Fin 26).val : Int) = r from Int.toNat_of_nonneg h0] at this
theorem alph_len : (Str.ofString "abcdefghijklmnopqrstuvwxyz").length = 26 := by decide +kernel
theorem signs_ok (c : Int) (l t : Int) (n : Nat) (hn : n ≤ 8) (h0 : 0 ≤ t) (h1 : t + 100 < 2 ^ 40) : ∃ (ks : List Nat) (l' t' : Int), ks.length = n ∧ (∀ k ∈ ks, 97 ≤ k ∧ k ≤ 122) ∧ t ≤ t' ∧ t' ≤ t + 4 * n ∧
    compL (tgN 3) cYes e0__law_word [3] ((List.range n).map fun i => .int (0 + (i : Nat))) [] [.o true false (.d (stD l c t)), .u, .u, .u] = .ok (ks.map fun k => .str ⟨#[k]⟩) [.o true false (.d (stD l' c t')), .u, .u, .u] := by
  obtain ⟨acc, e', g1, g2, l', t', ks, rfl, rfl, g3, g4, g5⟩ := compL_inv (t := tgN 3) (c := cYes) (f := e0__law_word) (vs := [3])
    (fun acc e => ∃ l' t' ks, acc = List.map (fun k => D.str ⟨#[k]⟩) ks ∧ e = [.o true false (.d (stD l' c t')), .u, .u, .u] ∧ (∀ k ∈ ks, 97 ≤ k ∧ k ≤ 122) ∧ t ≤ t' ∧ t' ≤ t + 4 * (ks.length : Int)) ((List.range n).map fun i => .int (0 + (i : Nat))) [] [.o true false (.d (stD l c t)), .u, .u, .u]
    (by simp; exact Nat.le_trans hn (by decide)) ⟨l, t, [], rfl, rfl, by simp, Int.le_refl _, by simp⟩ fun d hd acc e hl hi => by
      obtain ⟨l', t', ks, rfl, rfl, g3, g4, g5⟩ := hi
      simp at hl
      obtain ⟨r, l2, t2, r0, r1, r2, r3, hr⟩ := digit_ok l' c t' 26 (by omega) (by omega) (by decide) (by decide)
      refine ⟨[.o true false (.d (stD l' c t')), .u, .u, .v d], [.o true false (.d (stD l2 c t2)), .u, .u, .v d], .str ⟨#[97 + r.toNat]⟩, by simp only [eC, DL.le_size, DL.lt_size, Int.reducePow, Nat.reducePow, Int.reduceLT, or_true, true_or, or_false, false_or, or_self, DL.k_NoneType_int, DL.k_NoneType_str, DL.k_NoneType_tuple, DL.k_NoneType_list, DL.k_NoneType_bool, DL.k_bool_int, DL.k_bool_str, DL.k_bool_tuple, DL.k_bool_list, DL.k_bool_bool, DL.k_int_int, DL.k_int_str, DL.k_int_tuple, DL.k_int_list, DL.k_int_bool, DL.k_str_int, DL.k_str_str, DL.k_str_tuple, DL.k_str_list, DL.k_str_bool, DL.k_list_int, DL.k_list_str, DL.k_list_tuple, DL.k_list_list, DL.k_list_bool, DL.k_tuple_int, DL.k_tuple_str, DL.k_tuple_tuple, DL.k_tuple_list, DL.k_tuple_bool, DL.k_dict_int, DL.k_dict_str, DL.k_dict_tuple, DL.k_dict_list, DL.k_dict_bool, DL.runDef, DL.sSeq, DL.sIf, DL.sE, DL.sSet, DL.sRet, DL.sNx, DL.sPar, DL.assign, DL.free_z, DL.free_s, DL.okB_u, DL.okB_v, DL.okB_o, DL.fresh, DL.toD, DL.peek, DL.peeks, DL.giv, DL.eC, DL.eVar, DL.eUn, DL.eBin, DL.eT, DL.eB, DL.tNotE, DL.tAndE, DL.tOrE, DL.eIf, DL.eNot, DL.eAnd, DL.eOr, DL.eChain, DL.eDs, DL.eTup, DL.eLst, DL.eVs, DL.eBi, DL.eDct, DL.eKs, DL.mergeD, DL.sPut, DL.sFor, DL.sAsg, DL.tgN, DL.tgT, DL.tgs, DL.eMut, DL.gAppend, DL.eM1, DL.eFmt, DL.eJs, DL.eSl, DL.ePart, DL.gIx, DL.keyD, DL.gAdd, DL.gSub, DL.gMul, DL.gMod, DL.gDiv, DL.gPow, DL.gLt, DL.gLe, DL.gGt, DL.gGe, DL.gIs, DL.gIsNot, DL.isNon, DL.gIsi, DL.tyD, DL.gLen, DL.gTuple, DL.sv, DL.truth, DL.eCall, DL.eArgs, DL.callF, DL.slotsOf, DL.countIo, DL.ioOf, DL.borsOf, DL.borOk, DL.back1, DL.putBack, DL.nolR, DL.nolM, DL.nolO, DL.fin, DL.ioM, DL.M.toD, DL.bind_ok, DL.bind_no, Option.bind_some, Option.bind_none, Option.map_some, Option.map_none, List.length_cons, List.length_nil, List.length_append, List.length_map, List.append_nil, List.nil_append, List.cons_append, List.map_cons, List.map_nil, List.replicate, List.getElem?_cons_zero, List.getElem?_cons_succ, List.getElem?_nil, List.set_cons_zero, List.set_cons_succ, Nat.zero_add, Nat.add_zero, Nat.reduceAdd, Nat.reduceSub, if_true, if_false, Bool.not_true, Bool.not_false, Bool.and_self, Bool.and_true, Bool.true_and, Bool.or_true, Bool.true_or, Bool.false_or, Bool.or_false, List.isEmpty_nil, List.isEmpty_cons, if_pos, reduceIte, Bool.false_eq_true, eq_self, and_self, and_true, true_and, ↓reduceIte, Nat.le_refl, reduceCtorEq, Nat.sub_self, List.all_cons, List.all_nil, Bool.false_and, Nat.zero_le, Nat.reduceLeDiff, Nat.reduceEqDiff, Int.cast_ofNat_Int, Int.reduceLE, Int.reduceLT, Int.reduceEq, Int.reduceNe, Int.reduceAdd, Int.reduceSub, Int.reduceMul, Int.reduceNeg, Int.reduceToNat, decide_true, decide_false, ne_eq, not_true_eq_false, not_false_eq_true], rfl, ?_, l2, t2, ks ++ [97 + r.toNat], by simp, by simp only [wipeE, DL.le_size, DL.lt_size, Int.reducePow, Nat.reducePow, Int.reduceLT, or_true, true_or, or_false, false_or, or_self, DL.k_NoneType_int, DL.k_NoneType_str, DL.k_NoneType_tuple, DL.k_NoneType_list, DL.k_NoneType_bool, DL.k_bool_int, DL.k_bool_str, DL.k_bool_tuple, DL.k_bool_list, DL.k_bool_bool, DL.k_int_int, DL.k_int_str, DL.k_int_tuple, DL.k_int_list, DL.k_int_bool, DL.k_str_int, DL.k_str_str, DL.k_str_tuple, DL.k_str_list, DL.k_str_bool, DL.k_list_int, DL.k_list_str, DL.k_list_tuple, DL.k_list_list, DL.k_list_bool, DL.k_tuple_int, DL.k_tuple_str, DL.k_tuple_tuple, DL.k_tuple_list, DL.k_tuple_bool, DL.k_dict_int, DL.k_dict_str, DL.k_dict_tuple, DL.k_dict_list, DL.k_dict_bool, DL.runDef, DL.sSeq, DL.sIf, DL.sE, DL.sSet, DL.sRet, DL.sNx, DL.sPar, DL.assign, DL.free_z, DL.free_s, DL.okB_u, DL.okB_v, DL.okB_o, DL.fresh, DL.toD, DL.peek, DL.peeks, DL.giv, DL.eC, DL.eVar, DL.eUn, DL.eBin, DL.eT, DL.eB, DL.tNotE, DL.tAndE, DL.tOrE, DL.eIf, DL.eNot, DL.eAnd, DL.eOr, DL.eChain, DL.eDs, DL.eTup, DL.eLst, DL.eVs, DL.eBi, DL.eDct, DL.eKs, DL.mergeD, DL.sPut, DL.sFor, DL.sAsg, DL.tgN, DL.tgT, DL.tgs, DL.eMut, DL.gAppend, DL.eM1, DL.eFmt, DL.eJs, DL.eSl, DL.ePart, DL.gIx, DL.keyD, DL.gAdd, DL.gSub, DL.gMul, DL.gMod, DL.gDiv, DL.gPow, DL.gLt, DL.gLe, DL.gGt, DL.gGe, DL.gIs, DL.gIsNot, DL.isNon, DL.gIsi, DL.tyD, DL.gLen, DL.gTuple, DL.sv, DL.truth, DL.eCall, DL.eArgs, DL.callF, DL.slotsOf, DL.countIo, DL.ioOf, DL.borsOf, DL.borOk, DL.back1, DL.putBack, DL.nolR, DL.nolM, DL.nolO, DL.fin, DL.ioM, DL.M.toD, DL.bind_ok, DL.bind_no, Option.bind_some, Option.bind_none, Option.map_some, Option.map_none, List.length_cons, List.length_nil, List.length_append, List.length_map, List.append_nil, List.nil_append, List.cons_append, List.map_cons, List.map_nil, List.replicate, List.getElem?_cons_zero, List.getElem?_cons_succ, List.getElem?_nil, List.set_cons_zero, List.set_cons_succ, Nat.zero_add, Nat.add_zero, Nat.reduceAdd, Nat.reduceSub, if_true, if_false, Bool.not_true, Bool.not_false, Bool.and_self, Bool.and_true, Bool.true_and, Bool.or_true, Bool.true_or, Bool.false_or, Bool.or_false, List.isEmpty_nil, List.isEmpty_cons, if_pos, reduceIte, Bool.false_eq_true, eq_self, and_self, and_true, true_and, ↓reduceIte, Nat.le_refl, reduceCtorEq, Nat.sub_self, List.all_cons, List.all_nil, Bool.false_and, Nat.zero_le, Nat.reduceLeDiff, Nat.reduceEqDiff, Int.cast_ofNat_Int, Int.reduceLE, Int.reduceLT, Int.reduceEq, Int.reduceNe, Int.reduceAdd, Int.reduceSub, Int.reduceMul, Int.reduceNeg, Int.reduceToNat, decide_true, decide_false, ne_eq, not_true_eq_false, not_false_eq_true], ?_, by omega, by simp; omega⟩
      · simp only [e0__law_word, hr, alph_len, alph_at r0 r1, DL.le_size, DL.lt_size, Int.reducePow, Nat.reducePow, Int.reduceLT, or_true, true_or, or_false, false_or, or_self, DL.k_NoneType_int, DL.k_NoneType_str, DL.k_NoneType_tuple, DL.k_NoneType_list, DL.k_NoneType_bool, DL.k_bool_int, DL.k_bool_str, DL.k_bool_tuple, DL.k_bool_list, DL.k_bool_bool, DL.k_int_int, DL.k_int_str, DL.k_int_tuple, DL.k_int_list, DL.k_int_bool, DL.k_str_int, DL.k_str_str, DL.k_str_tuple, DL.k_str_list, DL.k_str_bool, DL.k_list_int, DL.k_list_str, DL.k_list_tuple, DL.k_list_list, DL.k_list_bool, DL.k_tuple_int, DL.k_tuple_str, DL.k_tuple_tuple, DL.k_tuple_list, DL.k_tuple_bool, DL.k_dict_int, DL.k_dict_str, DL.k_dict_tuple, DL.k_dict_list, DL.k_dict_bool, DL.runDef, DL.sSeq, DL.sIf, DL.sE, DL.sSet, DL.sRet, DL.sNx, DL.sPar, DL.assign, DL.free_z, DL.free_s, DL.okB_u, DL.okB_v, DL.okB_o, DL.fresh, DL.toD, DL.peek, DL.peeks, DL.giv, DL.eC, DL.eVar, DL.eUn, DL.eBin, DL.eT, DL.eB, DL.tNotE, DL.tAndE, DL.tOrE, DL.eIf, DL.eNot, DL.eAnd, DL.eOr, DL.eChain, DL.eDs, DL.eTup, DL.eLst, DL.eVs, DL.eBi, DL.eDct, DL.eKs, DL.mergeD, DL.sPut, DL.sFor, DL.sAsg, DL.tgN, DL.tgT, DL.tgs, DL.eMut, DL.gAppend, DL.eM1, DL.eFmt, DL.eJs, DL.eSl, DL.ePart, DL.gIx, DL.keyD, DL.gAdd, DL.gSub, DL.gMul, DL.gMod, DL.gDiv, DL.gPow, DL.gLt, DL.gLe, DL.gGt, DL.gGe, DL.gIs, DL.gIsNot, DL.isNon, DL.gIsi, DL.tyD, DL.gLen, DL.gTuple, DL.sv, DL.truth, DL.eCall, DL.eArgs, DL.callF, DL.slotsOf, DL.countIo, DL.ioOf, DL.borsOf, DL.borOk, DL.back1, DL.putBack, DL.nolR, DL.nolM, DL.nolO, DL.fin, DL.ioM, DL.M.toD, DL.bind_ok, DL.bind_no, Option.bind_some, Option.bind_none, Option.map_some, Option.map_none, List.length_cons, List.length_nil, List.length_append, List.length_map, List.append_nil, List.nil_append, List.cons_append, List.map_cons, List.map_nil, List.replicate, List.getElem?_cons_zero, List.getElem?_cons_succ, List.getElem?_nil, List.set_cons_zero, List.set_cons_succ, Nat.zero_add, Nat.add_zero, Nat.reduceAdd, Nat.reduceSub, if_true, if_false, Bool.not_true, Bool.not_false, Bool.and_self, Bool.and_true, Bool.true_and, Bool.or_true, Bool.true_or, Bool.false_or, Bool.or_false, List.isEmpty_nil, List.isEmpty_cons, if_pos, reduceIte, Bool.false_eq_true, eq_self, and_self, and_true, true_and, ↓reduceIte, Nat.le_refl, reduceCtorEq, Nat.sub_self, List.all_cons, List.all_nil, Bool.false_and, Nat.zero_le, Nat.reduceLeDiff, Nat.reduceEqDiff, Int.cast_ofNat_Int, Int.reduceLE, Int.reduceLT, Int.reduceEq, Int.reduceNe, Int.reduceAdd, Int.reduceSub, Int.reduceMul, Int.reduceNeg, Int.reduceToNat, decide_true, decide_false, ne_eq, not_true_eq_false, not_false_eq_true]
      · intro k hk
        rcases List.mem_append.mp hk with hk | hk
        · exact g3 k hk
        · rw [List.mem_singleton.mp hk]
          omega
  simp at g2
  exact ⟨ks, l', t', g2, g3, g4, by rw [g2] at g5; exact g5, g1⟩
theorem joined_okN {ks : List Nat} (h0 : 1 ≤ ks.length) (h1 : ks.length ≤ 8) (h : ∀ k ∈ ks, 97 ≤ k ∧ k ≤ 122) : okN (Txt.join "" (ks.map fun k => (⟨#[k]⟩ : Str))) := by
  have e0 : TL.tl (Str.ofString "") = [] := by decide +kernel
  have e : (Txt.join "" (ks.map fun k => (⟨#[k]⟩ : Str))).cps.toList = ks := by
    show TL.tl _ = ks
    rw [TL.join_eq, TL.tl_join, e0, joinL_nil, List.map_map]
    have : (TL.tl ∘ fun k => (⟨#[k]⟩ : Str)) = fun k => [k] := rfl
    rw [this]
    clear h h0 h1
    induction ks with
    | nil => rfl
    | cons k ks ih => simp [ih]
  have el : (Txt.join "" (ks.map fun k => (⟨#[k]⟩ : Str))).length = ks.length := by
    show (Txt.join "" (ks.map fun k => (⟨#[k]⟩ : Str))).cps.size = _
    rw [← Array.length_toList, e]
  exact ⟨by rw [el]; exact h0, by rw [el]; exact h1, by rw [e]; exact h⟩
def isW (d : D) : Prop := ∃ x, d = .str x ∧ okN x
def okNb (x : Str) : Bool := decide (1 ≤ x.length) && decide (x.length ≤ 8) && x.cps.toList.all fun c => decide (97 ≤ c) && decide (c ≤ 122)
theorem okN_of {x : Str} (h : okNb x = true) : okN x := by
  unfold okNb at h
  rw [Bool.and_eq_true, Bool.and_eq_true] at h
  refine ⟨of_decide_eq_true h.1.1, of_decide_eq_true h.1.2, fun c hc => ?_⟩
  have := List.all_eq_true.mp h.2 c hc
  rw [Bool.and_eq_true] at this
  exact ⟨of_decide_eq_true this.1, of_decide_eq_true this.2⟩
theorem words_okN : ∀ x ∈ (["a", "ab", "b", "bell", "away", "tree", "told", "last", "lost", "ring"] : List Str), okNb x = true := by decide +kernel
theorem wsum (ks : List Nat) : ((ks.map fun k => (⟨#[k]⟩ : Str)).map (·.length)).sum = ks.length := by
  induction ks with
  | nil => rfl
  | cons k ks ih =>
    rw [List.map_cons, List.map_cons, List.sum_cons, ih, List.length_cons]
    show 1 + ks.length = ks.length + 1
    omega
theorem jn (ks : List Nat) (h : ks.length ≤ 8) : gJoin (Str.ofString "") (.lst (ks.map fun k => D.str ⟨#[k]⟩)) = some (.v (.str (Txt.join "" (ks.map fun k => (⟨#[k]⟩ : Str))))) := by
  have e : (ks.map fun k => D.str ⟨#[k]⟩) = (ks.map fun k => (⟨#[k]⟩ : Str)).map D.str := by rw [List.map_map]; rfl
  have l0 : (Str.ofString "").length = 0 := by decide +kernel
  unfold gJoin
  rw [e]
  dsimp only
  rw [strs_map]
  show (if _ then _ else _) = _
  rw [if_pos (by rw [wsum, l0]; omega)]
theorem word_ok (c l t : Int) (h0 : 0 ≤ t) (h1 : t + 200 < 2 ^ 40) : ∃ (x : Str) (l' t' : Int), okN x ∧ t ≤ t' ∧ t' ≤ t + 40 ∧ F__law_word [.o true false (.d (stD l c t))] = .ok (.v (.str x)) (some (.d (stD l' c t'))) := by
  obtain ⟨r, l1, t1, r0, r1, r2, r3, hr⟩ := digit_ok l c t 8 (by omega) (by omega) (by decide) (by decide)
  obtain ⟨ks, l2, t2, k0, k1, k2, k3, hk⟩ := signs_ok c l1 t1 (1 + r).toNat (by omega) (by omega) (by omega)
  obtain ⟨r', l3, t3, q0, q1, q2, q3, hq⟩ := digit_ok l2 c t2 12 (by omega) (by omega) (by decide) (by decide)
  have n0 : 1 ≤ ks.length := by omega
  have n1 : ks.length ≤ 8 := by omega
  have s1 : sSet 1 (eLc [3] (tgN 3) (iRange1 (eBin gAdd (eC (.int 1)) (eCall F__law_digit 2 (some 0) [] [(.io, eVar 0), (.v, eC (.int 8))]))) cYes e0__law_word) [.o true false (.d (stD l c t)), .u, .u, .u] = .ok .nx [.o true false (.d (stD l2 c t2)), .o false false (.l (ks.map fun k => D.str ⟨#[k]⟩)), .u, .u] := by
    have b1 : (-4611686018427387904 : Int) ≤ 1 + r := by omega
    have b2 : 1 + r < 4611686018427387904 := by omega
    simp only [eLc, iRange1, hr, b1, b2, clean, wipeE, hk, keepE, DL.le_size, DL.lt_size, Int.reducePow, Nat.reducePow, Int.reduceLT, or_true, true_or, or_false, false_or, or_self, DL.k_NoneType_int, DL.k_NoneType_str, DL.k_NoneType_tuple, DL.k_NoneType_list, DL.k_NoneType_bool, DL.k_bool_int, DL.k_bool_str, DL.k_bool_tuple, DL.k_bool_list, DL.k_bool_bool, DL.k_int_int, DL.k_int_str, DL.k_int_tuple, DL.k_int_list, DL.k_int_bool, DL.k_str_int, DL.k_str_str, DL.k_str_tuple, DL.k_str_list, DL.k_str_bool, DL.k_list_int, DL.k_list_str, DL.k_list_tuple, DL.k_list_list, DL.k_list_bool, DL.k_tuple_int, DL.k_tuple_str, DL.k_tuple_tuple, DL.k_tuple_list, DL.k_tuple_bool, DL.k_dict_int, DL.k_dict_str, DL.k_dict_tuple, DL.k_dict_list, DL.k_dict_bool, DL.runDef, DL.sSeq, DL.sIf, DL.sE, DL.sSet, DL.sRet, DL.sNx, DL.sPar, DL.assign, DL.free_z, DL.free_s, DL.okB_u, DL.okB_v, DL.okB_o, DL.fresh, DL.toD, DL.peek, DL.peeks, DL.giv, DL.eC, DL.eVar, DL.eUn, DL.eBin, DL.eT, DL.eB, DL.tNotE, DL.tAndE, DL.tOrE, DL.eIf, DL.eNot, DL.eAnd, DL.eOr, DL.eChain, DL.eDs, DL.eTup, DL.eLst, DL.eVs, DL.eBi, DL.eDct, DL.eKs, DL.mergeD, DL.sPut, DL.sFor, DL.sAsg, DL.tgN, DL.tgT, DL.tgs, DL.eMut, DL.gAppend, DL.eM1, DL.eFmt, DL.eJs, DL.eSl, DL.ePart, DL.gIx, DL.keyD, DL.gAdd, DL.gSub, DL.gMul, DL.gMod, DL.gDiv, DL.gPow, DL.gLt, DL.gLe, DL.gGt, DL.gGe, DL.gIs, DL.gIsNot, DL.isNon, DL.gIsi, DL.tyD, DL.gLen, DL.gTuple, DL.sv, DL.truth, DL.eCall, DL.eArgs, DL.callF, DL.slotsOf, DL.countIo, DL.ioOf, DL.borsOf, DL.borOk, DL.back1, DL.putBack, DL.nolR, DL.nolM, DL.nolO, DL.fin, DL.ioM, DL.M.toD, DL.bind_ok, DL.bind_no, Option.bind_some, Option.bind_none, Option.map_some, Option.map_none, List.length_cons, List.length_nil, List.length_append, List.length_map, List.append_nil, List.nil_append, List.cons_append, List.map_cons, List.map_nil, List.replicate, List.getElem?_cons_zero, List.getElem?_cons_succ, List.getElem?_nil, List.set_cons_zero, List.set_cons_succ, Nat.zero_add, Nat.add_zero, Nat.reduceAdd, Nat.reduceSub, if_true, if_false, Bool.not_true, Bool.not_false, Bool.and_self, Bool.and_true, Bool.true_and, Bool.or_true, Bool.true_or, Bool.false_or, Bool.or_false, List.isEmpty_nil, List.isEmpty_cons, if_pos, reduceIte, Bool.false_eq_true, eq_self, and_self, and_true, true_and, ↓reduceIte, Nat.le_refl, reduceCtorEq, Nat.sub_self, List.all_cons, List.all_nil, Bool.false_and, Nat.zero_le, Nat.reduceLeDiff, Nat.reduceEqDiff, Int.cast_ofNat_Int, Int.reduceLE, Int.reduceLT, Int.reduceEq, Int.reduceNe, Int.reduceAdd, Int.reduceSub, Int.reduceMul, Int.reduceNeg, Int.reduceToNat, decide_true, decide_false, ne_eq, not_true_eq_false, not_false_eq_true]
    rfl
  have tk : cutD (ks.map fun k => D.str ⟨#[k]⟩) none (some 2) = (ks.take 2).map fun k => D.str ⟨#[k]⟩ := by
    rw [show (2 : Int) = ((2 : Nat) : Int) from rfl, cut_to, List.map_take]
  have l2' : (ks.take 2).length ≤ 8 := by rw [List.length_take]; omega
  have s2 : sSet 2 (eLst [eM1 gJoin (eC (.str "")) (eVar 1), eM1 gJoin (eC (.str "")) (eSl (eVar 1) none (some (eC (.int 2)))), eC (.str "a"), eC (.str "ab"), eC (.str "b"), eC (.str "bell"), eC (.str "away"), eC (.str "tree"), eC (.str "told"), eC (.str "last"), eC (.str "lost"), eC (.str "ring")]) [.o true false (.d (stD l2 c t2)), .o false false (.l (ks.map fun k => D.str ⟨#[k]⟩)), .u, .u] = .ok .nx [.o true false (.d (stD l2 c t2)), .o false false (.l (ks.map fun k => D.str ⟨#[k]⟩)), .o false false (.l [.str (Txt.join "" (ks.map fun k => (⟨#[k]⟩ : Str))), .str (Txt.join "" ((ks.take 2).map fun k => (⟨#[k]⟩ : Str))), .str "a", .str "ab", .str "b", .str "bell", .str "away", .str "tree", .str "told", .str "last", .str "lost", .str "ring"]), .u] := by
    simp only [gSl, tk, jn ks n1, jn (ks.take 2) l2', DL.le_size, DL.lt_size, Int.reducePow, Nat.reducePow, Int.reduceLT, or_true, true_or, or_false, false_or, or_self, DL.k_NoneType_int, DL.k_NoneType_str, DL.k_NoneType_tuple, DL.k_NoneType_list, DL.k_NoneType_bool, DL.k_bool_int, DL.k_bool_str, DL.k_bool_tuple, DL.k_bool_list, DL.k_bool_bool, DL.k_int_int, DL.k_int_str, DL.k_int_tuple, DL.k_int_list, DL.k_int_bool, DL.k_str_int, DL.k_str_str, DL.k_str_tuple, DL.k_str_list, DL.k_str_bool, DL.k_list_int, DL.k_list_str, DL.k_list_tuple, DL.k_list_list, DL.k_list_bool, DL.k_tuple_int, DL.k_tuple_str, DL.k_tuple_tuple, DL.k_tuple_list, DL.k_tuple_bool, DL.k_dict_int, DL.k_dict_str, DL.k_dict_tuple, DL.k_dict_list, DL.k_dict_bool, DL.runDef, DL.sSeq, DL.sIf, DL.sE, DL.sSet, DL.sRet, DL.sNx, DL.sPar, DL.assign, DL.free_z, DL.free_s, DL.okB_u, DL.okB_v, DL.okB_o, DL.fresh, DL.toD, DL.peek, DL.peeks, DL.giv, DL.eC, DL.eVar, DL.eUn, DL.eBin, DL.eT, DL.eB, DL.tNotE, DL.tAndE, DL.tOrE, DL.eIf, DL.eNot, DL.eAnd, DL.eOr, DL.eChain, DL.eDs, DL.eTup, DL.eLst, DL.eVs, DL.eBi, DL.eDct, DL.eKs, DL.mergeD, DL.sPut, DL.sFor, DL.sAsg, DL.tgN, DL.tgT, DL.tgs, DL.eMut, DL.gAppend, DL.eM1, DL.eFmt, DL.eJs, DL.eSl, DL.ePart, DL.gIx, DL.keyD, DL.gAdd, DL.gSub, DL.gMul, DL.gMod, DL.gDiv, DL.gPow, DL.gLt, DL.gLe, DL.gGt, DL.gGe, DL.gIs, DL.gIsNot, DL.isNon, DL.gIsi, DL.tyD, DL.gLen, DL.gTuple, DL.sv, DL.truth, DL.eCall, DL.eArgs, DL.callF, DL.slotsOf, DL.countIo, DL.ioOf, DL.borsOf, DL.borOk, DL.back1, DL.putBack, DL.nolR, DL.nolM, DL.nolO, DL.fin, DL.ioM, DL.M.toD, DL.bind_ok, DL.bind_no, Option.bind_some, Option.bind_none, Option.map_some, Option.map_none, List.length_cons, List.length_nil, List.length_append, List.length_map, List.append_nil, List.nil_append, List.cons_append, List.map_cons, List.map_nil, List.replicate, List.getElem?_cons_zero, List.getElem?_cons_succ, List.getElem?_nil, List.set_cons_zero, List.set_cons_succ, Nat.zero_add, Nat.add_zero, Nat.reduceAdd, Nat.reduceSub, if_true, if_false, Bool.not_true, Bool.not_false, Bool.and_self, Bool.and_true, Bool.true_and, Bool.or_true, Bool.true_or, Bool.false_or, Bool.or_false, List.isEmpty_nil, List.isEmpty_cons, if_pos, reduceIte, Bool.false_eq_true, eq_self, and_self, and_true, true_and, ↓reduceIte, Nat.le_refl, reduceCtorEq, Nat.sub_self, List.all_cons, List.all_nil, Bool.false_and, Nat.zero_le, Nat.reduceLeDiff, Nat.reduceEqDiff, Int.cast_ofNat_Int, Int.reduceLE, Int.reduceLT, Int.reduceEq, Int.reduceNe, Int.reduceAdd, Int.reduceSub, Int.reduceMul, Int.reduceNeg, Int.reduceToNat, decide_true, decide_false, ne_eq, not_true_eq_false, not_false_eq_true]
  have all : ∀ d ∈ ([.str (Txt.join "" (ks.map fun k => (⟨#[k]⟩ : Str))), .str (Txt.join "" ((ks.take 2).map fun k => (⟨#[k]⟩ : Str))), .str "a", .str "ab", .str "b", .str "bell", .str "away", .str "tree", .str "told", .str "last", .str "lost", .str "ring"] : List D), isW d := fun d hd => by
    rcases List.mem_cons.mp hd with rfl | hd
    · exact ⟨_, rfl, joined_okN n0 n1 k1⟩
    rcases List.mem_cons.mp hd with rfl | hd
    · exact ⟨_, rfl, joined_okN (by rw [List.length_take]; omega) l2' fun k hk => k1 k (List.mem_of_mem_take hk)⟩
    have : d ∈ (["a", "ab", "b", "bell", "away", "tree", "told", "last", "lost", "ring"] : List Str).map D.str := hd
    obtain ⟨x, hx, rfl⟩ := List.mem_map.mp this
    exact ⟨x, rfl, okN_of (words_okN x hx)⟩
  obtain ⟨d, d1, d2⟩ := atI_in (r := r') q0 (show r' < ([.str (Txt.join "" (ks.map fun k => (⟨#[k]⟩ : Str))), .str (Txt.join "" ((ks.take 2).map fun k => (⟨#[k]⟩ : Str))), .str "a", .str "ab", .str "b", .str "bell", .str "away", .str "tree", .str "told", .str "last", .str "lost", .str "ring"] : List D).length from q1)
  obtain ⟨x, rfl, hx⟩ := all d d2
  refine ⟨x, l3, t3, hx, by omega, by omega, ?_⟩
  refine (run_of (x := .v (.str x)) (e := [.o true false (.d (stD l3 c t3)), .o false false (.l (ks.map fun k => D.str ⟨#[k]⟩)), .o false false (.l [.str (Txt.join "" (ks.map fun k => (⟨#[k]⟩ : Str))), .str (Txt.join "" ((ks.take 2).map fun k => (⟨#[k]⟩ : Str))), .str "a", .str "ab", .str "b", .str "bell", .str "away", .str "tree", .str "told", .str "last", .str "lost", .str "ring"]), .u]) ?_).trans rfl
  refine (sSeq_nx s1).trans ((sSeq_nx s2).trans ?_)
  simp only [hq, d1, DL.le_size, DL.lt_size, Int.reducePow, Nat.reducePow, Int.reduceLT, or_true, true_or, or_false, false_or, or_self, DL.k_NoneType_int, DL.k_NoneType_str, DL.k_NoneType_tuple, DL.k_NoneType_list, DL.k_NoneType_bool, DL.k_bool_int, DL.k_bool_str, DL.k_bool_tuple, DL.k_bool_list, DL.k_bool_bool, DL.k_int_int, DL.k_int_str, DL.k_int_tuple, DL.k_int_list, DL.k_int_bool, DL.k_str_int, DL.k_str_str, DL.k_str_tuple, DL.k_str_list, DL.k_str_bool, DL.k_list_int, DL.k_list_str, DL.k_list_tuple, DL.k_list_list, DL.k_list_bool, DL.k_tuple_int, DL.k_tuple_str, DL.k_tuple_tuple, DL.k_tuple_list, DL.k_tuple_bool, DL.k_dict_int, DL.k_dict_str, DL.k_dict_tuple, DL.k_dict_list, DL.k_dict_bool, DL.runDef, DL.sSeq, DL.sIf, DL.sE, DL.sSet, DL.sRet, DL.sNx, DL.sPar, DL.assign, DL.free_z, DL.free_s, DL.okB_u, DL.okB_v, DL.okB_o, DL.fresh, DL.toD, DL.peek, DL.peeks, DL.giv, DL.eC, DL.eVar, DL.eUn, DL.eBin, DL.eT, DL.eB, DL.tNotE, DL.tAndE, DL.tOrE, DL.eIf, DL.eNot, DL.eAnd, DL.eOr, DL.eChain, DL.eDs, DL.eTup, DL.eLst, DL.eVs, DL.eBi, DL.eDct, DL.eKs, DL.mergeD, DL.sPut, DL.sFor, DL.sAsg, DL.tgN, DL.tgT, DL.tgs, DL.eMut, DL.gAppend, DL.eM1, DL.eFmt, DL.eJs, DL.eSl, DL.ePart, DL.gIx, DL.keyD, DL.gAdd, DL.gSub, DL.gMul, DL.gMod, DL.gDiv, DL.gPow, DL.gLt, DL.gLe, DL.gGt, DL.gGe, DL.gIs, DL.gIsNot, DL.isNon, DL.gIsi, DL.tyD, DL.gLen, DL.gTuple, DL.sv, DL.truth, DL.eCall, DL.eArgs, DL.callF, DL.slotsOf, DL.countIo, DL.ioOf, DL.borsOf, DL.borOk, DL.back1, DL.putBack, DL.nolR, DL.nolM, DL.nolO, DL.fin, DL.ioM, DL.M.toD, DL.bind_ok, DL.bind_no, Option.bind_some, Option.bind_none, Option.map_some, Option.map_none, List.length_cons, List.length_nil, List.length_append, List.length_map, List.append_nil, List.nil_append, List.cons_append, List.map_cons, List.map_nil, List.replicate, List.getElem?_cons_zero, List.getElem?_cons_succ, List.getElem?_nil, List.set_cons_zero, List.set_cons_succ, Nat.zero_add, Nat.add_zero, Nat.reduceAdd, Nat.reduceSub, if_true, if_false, Bool.not_true, Bool.not_false, Bool.and_self, Bool.and_true, Bool.true_and, Bool.or_true, Bool.true_or, Bool.false_or, Bool.or_false, List.isEmpty_nil, List.isEmpty_cons, if_pos, reduceIte, Bool.false_eq_true, eq_self, and_self, and_true, true_and, ↓reduceIte, Nat.le_refl, reduceCtorEq, Nat.sub_self, List.all_cons, List.all_nil, Bool.false_and, Nat.zero_le, Nat.reduceLeDiff, Nat.reduceEqDiff, Int.cast_ofNat_Int, Int.reduceLE, Int.reduceLT, Int.reduceEq, Int.reduceNe, Int.reduceAdd, Int.reduceSub, Int.reduceMul, Int.reduceNeg, Int.reduceToNat, decide_true, decide_false, ne_eq, not_true_eq_false, not_false_eq_true]
/-! trees -/
structure Prs where
  nm : Str
  ab : Str
  tk : Int
def pD (p : Prs) : D := .tup [.str p.nm, .str p.ab, .int p.tk]
inductive GoodP : List Prs → Prop
  | nil : GoodP []
  | snoc {ps : List Prs} {p : Prs} (g : GoodP ps) (n : okN p.nm) (f : p.nm ∉ ps.map (·.nm)) (t0 : 1 ≤ p.tk) (t1 : p.tk ≤ 60) (a : p.ab = "" ∨ p.ab ∈ ps.map (·.nm)) : GoodP (ps ++ [p])
def treeE (l c t : Int) (most way many w d : Int) (ps : List Prs) (sj sw st ss sc : DL.Slot) : DL.Env := [.o true false (.d (stD l c t)), .v (.int most), .v (.int way), .v (.int many), .v (.tup [.int w, .int d]), .o false false (.l (ps.map fun p => .str p.nm)), .o false false (.l (ps.map pD)), sj, sw, st, ss, sc]
theorem four {a b c d : D} {r : Int} {P : D → Prop} (h0 : 0 ≤ r) (h1 : r < 4) (ha : P a) (hb : P b) (hc : P c) (hd : P d) : ∃ x, L2.atI [a, b, c, d] r = some x ∧ P x := by
  obtain ⟨x, h2, h3⟩ := atI_in (xs := [a, b, c, d]) h0 h1
  refine ⟨x, h2, ?_⟩
  rcases List.mem_cons.mp h3 with rfl | h3
  · exact ha
  rcases List.mem_cons.mp h3 with rfl | h3
  · exact hb
  rcases List.mem_cons.mp h3 with rfl | h3
  · exact hc
  rcases List.mem_cons.mp h3 with rfl | h3
  · exact hd
  cases h3
theorem turn_ok (l c t most way many w d : Int) (ps : List Prs) (sj sw st ss sc : DL.Slot) (x0 : D) (g : GoodP ps) (h0 : 0 ≤ t) (h1 : t + 400 < 2 ^ 40) (w0 : 0 ≤ way) (w1 : way < 4) (pm : (ps.length : Int) ≤ many) (m16 : many ≤ 16) (oj : okB sj = true) (ow : okB sw = true) (ot : okB st = true) (os : okB ss = true) (oc : okB sc = true) :
    ∃ (e2 : DL.Env) (l' t' : Int) (ps' : List Prs) (sw' st' ss' sc' : DL.Slot), tgN 7 x0 (treeE l c t most way many w d ps sj sw st ss sc) = some (treeE l c t most way many w d ps (.v x0) sw st ss sc) ∧ f0__law_tree (treeE l c t most way many w d ps (.v x0) sw st ss sc) = .ok .nx e2 ∧ e2 = treeE l' c t' most way many w d ps' (.v x0) sw' st' ss' sc' ∧ GoodP ps' ∧ (ps'.length : Int) ≤ many ∧ t ≤ t' ∧ t' ≤ t + 60 ∧ okB sw' = true ∧ okB st' = true ∧ okB ss' = true ∧ okB sc' = true := by
  obtain ⟨x, l1, t1, hx, a1, a2, hw⟩ := word_ok c l t h0 (by omega)
  obtain ⟨r60, l2, t2, b0, b1, b2, b3, hr60⟩ := digit_ok l1 c t1 60 (by omega) (by omega) (by decide) (by decide)
  obtain ⟨r4, l3, t3, c0, c1, c2, c3, hr4⟩ := digit_ok l2 c t2 4 (by omega) (by omega) (by decide) (by decide)
  obtain ⟨y, y1, tk, rfl, tk0, tk1⟩ := four (P := fun y => ∃ k : Int, y = .int k ∧ 1 ≤ k ∧ k ≤ 60) c0 c1 (a := .int 1) (b := .int 4) (c := .int 4) (d := .int (1 + r60)) ⟨1, rfl, by omega, by omega⟩ ⟨4, rfl, by omega, by omega⟩ ⟨4, rfl, by omega, by omega⟩ ⟨1 + r60, rfl, by omega, by omega⟩
  have s1 : sPar 8 9 (eCall F__law_word 1 (some 0) [] [(.io, eVar 0)]) (eBin gIx (eLst [eC (.int 1), eC (.int 4), eC (.int 4), eBin gAdd (eC (.int 1)) (eCall F__law_digit 2 (some 0) [] [(.io, eVar 0), (.v, eC (.int 60))])]) (eCall F__law_digit 2 (some 0) [] [(.io, eVar 0), (.v, eC (.int 4))])) (treeE l c t most way many w d ps (.v x0) sw st ss sc) = .ok .nx (treeE l3 c t3 most way many w d ps (.v x0) (.v (.str x)) (.v (.int tk)) ss sc) := by
    simp only [treeE, hw, hr60, hr4, y1, ow, ot, DL.le_size, DL.lt_size, Int.reducePow, Nat.reducePow, Int.reduceLT, or_true, true_or, or_false, false_or, or_self, DL.k_NoneType_int, DL.k_NoneType_str, DL.k_NoneType_tuple, DL.k_NoneType_list, DL.k_NoneType_bool, DL.k_bool_int, DL.k_bool_str, DL.k_bool_tuple, DL.k_bool_list, DL.k_bool_bool, DL.k_int_int, DL.k_int_str, DL.k_int_tuple, DL.k_int_list, DL.k_int_bool, DL.k_str_int, DL.k_str_str, DL.k_str_tuple, DL.k_str_list, DL.k_str_bool, DL.k_list_int, DL.k_list_str, DL.k_list_tuple, DL.k_list_list, DL.k_list_bool, DL.k_tuple_int, DL.k_tuple_str, DL.k_tuple_tuple, DL.k_tuple_list, DL.k_tuple_bool, DL.k_dict_int, DL.k_dict_str, DL.k_dict_tuple, DL.k_dict_list, DL.k_dict_bool, DL.runDef, DL.sSeq, DL.sIf, DL.sE, DL.sSet, DL.sRet, DL.sNx, DL.sPar, DL.assign, DL.free_z, DL.free_s, DL.okB_u, DL.okB_v, DL.okB_o, DL.fresh, DL.toD, DL.peek, DL.peeks, DL.giv, DL.eC, DL.eVar, DL.eUn, DL.eBin, DL.eT, DL.eB, DL.tNotE, DL.tAndE, DL.tOrE, DL.eIf, DL.eNot, DL.eAnd, DL.eOr, DL.eChain, DL.eDs, DL.eTup, DL.eLst, DL.eVs, DL.eBi, DL.eDct, DL.eKs, DL.mergeD, DL.sPut, DL.sFor, DL.sAsg, DL.tgN, DL.tgT, DL.tgs, DL.eMut, DL.gAppend, DL.eM1, DL.eFmt, DL.eJs, DL.eSl, DL.ePart, DL.gIx, DL.keyD, DL.gAdd, DL.gSub, DL.gMul, DL.gMod, DL.gDiv, DL.gPow, DL.gLt, DL.gLe, DL.gGt, DL.gGe, DL.gIs, DL.gIsNot, DL.isNon, DL.gIsi, DL.tyD, DL.gLen, DL.gTuple, DL.sv, DL.truth, DL.eCall, DL.eArgs, DL.callF, DL.slotsOf, DL.countIo, DL.ioOf, DL.borsOf, DL.borOk, DL.back1, DL.putBack, DL.nolR, DL.nolM, DL.nolO, DL.fin, DL.ioM, DL.M.toD, DL.bind_ok, DL.bind_no, Option.bind_some, Option.bind_none, Option.map_some, Option.map_none, List.length_cons, List.length_nil, List.length_append, List.length_map, List.append_nil, List.nil_append, List.cons_append, List.map_cons, List.map_nil, List.replicate, List.getElem?_cons_zero, List.getElem?_cons_succ, List.getElem?_nil, List.set_cons_zero, List.set_cons_succ, Nat.zero_add, Nat.add_zero, Nat.reduceAdd, Nat.reduceSub, if_true, if_false, Bool.not_true, Bool.not_false, Bool.and_self, Bool.and_true, Bool.true_and, Bool.or_true, Bool.true_or, Bool.false_or, Bool.or_false, List.isEmpty_nil, List.isEmpty_cons, if_pos, reduceIte, Bool.false_eq_true, eq_self, and_self, and_true, true_and, ↓reduceIte, Nat.le_refl, reduceCtorEq, Nat.sub_self, List.all_cons, List.all_nil, Bool.false_and, Nat.zero_le, Nat.reduceLeDiff, Nat.reduceEqDiff, Int.cast_ofNat_Int, Int.reduceLE, Int.reduceLT, Int.reduceEq, Int.reduceNe, Int.reduceAdd, Int.reduceSub, Int.reduceMul, Int.reduceNeg, Int.reduceToNat, decide_true, decide_false, ne_eq, not_true_eq_false, not_false_eq_true]
  have pl : ps.length ≤ 16 := by omega
  have z1 : 1 + ps.length ≤ sizeLine := Nat.le_trans (by omega : 1 + ps.length ≤ 64) (by decide)
  have z2 : ps.length + 1 ≤ sizeLine := by omega
  have s2 : sSet 10 (eBin gAdd (eLst [eC (.str "")]) (eVar 5)) (treeE l3 c t3 most way many w d ps (.v x0) (.v (.str x)) (.v (.int tk)) ss sc) = .ok .nx (treeE l3 c t3 most way many w d ps (.v x0) (.v (.str x)) (.v (.int tk)) (.o false false (.l (.str "" :: ps.map fun p => .str p.nm))) sc) := by
    simp only [treeE, z1, z2, os, DL.le_size, DL.lt_size, Int.reducePow, Nat.reducePow, Int.reduceLT, or_true, true_or, or_false, false_or, or_self, DL.k_NoneType_int, DL.k_NoneType_str, DL.k_NoneType_tuple, DL.k_NoneType_list, DL.k_NoneType_bool, DL.k_bool_int, DL.k_bool_str, DL.k_bool_tuple, DL.k_bool_list, DL.k_bool_bool, DL.k_int_int, DL.k_int_str, DL.k_int_tuple, DL.k_int_list, DL.k_int_bool, DL.k_str_int, DL.k_str_str, DL.k_str_tuple, DL.k_str_list, DL.k_str_bool, DL.k_list_int, DL.k_list_str, DL.k_list_tuple, DL.k_list_list, DL.k_list_bool, DL.k_tuple_int, DL.k_tuple_str, DL.k_tuple_tuple, DL.k_tuple_list, DL.k_tuple_bool, DL.k_dict_int, DL.k_dict_str, DL.k_dict_tuple, DL.k_dict_list, DL.k_dict_bool, DL.runDef, DL.sSeq, DL.sIf, DL.sE, DL.sSet, DL.sRet, DL.sNx, DL.sPar, DL.assign, DL.free_z, DL.free_s, DL.okB_u, DL.okB_v, DL.okB_o, DL.fresh, DL.toD, DL.peek, DL.peeks, DL.giv, DL.eC, DL.eVar, DL.eUn, DL.eBin, DL.eT, DL.eB, DL.tNotE, DL.tAndE, DL.tOrE, DL.eIf, DL.eNot, DL.eAnd, DL.eOr, DL.eChain, DL.eDs, DL.eTup, DL.eLst, DL.eVs, DL.eBi, DL.eDct, DL.eKs, DL.mergeD, DL.sPut, DL.sFor, DL.sAsg, DL.tgN, DL.tgT, DL.tgs, DL.eMut, DL.gAppend, DL.eM1, DL.eFmt, DL.eJs, DL.eSl, DL.ePart, DL.gIx, DL.keyD, DL.gAdd, DL.gSub, DL.gMul, DL.gMod, DL.gDiv, DL.gPow, DL.gLt, DL.gLe, DL.gGt, DL.gGe, DL.gIs, DL.gIsNot, DL.isNon, DL.gIsi, DL.tyD, DL.gLen, DL.gTuple, DL.sv, DL.truth, DL.eCall, DL.eArgs, DL.callF, DL.slotsOf, DL.countIo, DL.ioOf, DL.borsOf, DL.borOk, DL.back1, DL.putBack, DL.nolR, DL.nolM, DL.nolO, DL.fin, DL.ioM, DL.M.toD, DL.bind_ok, DL.bind_no, Option.bind_some, Option.bind_none, Option.map_some, Option.map_none, List.length_cons, List.length_nil, List.length_append, List.length_map, List.append_nil, List.nil_append, List.cons_append, List.map_cons, List.map_nil, List.replicate, List.getElem?_cons_zero, List.getElem?_cons_succ, List.getElem?_nil, List.set_cons_zero, List.set_cons_succ, Nat.zero_add, Nat.add_zero, Nat.reduceAdd, Nat.reduceSub, if_true, if_false, Bool.not_true, Bool.not_false, Bool.and_self, Bool.and_true, Bool.true_and, Bool.or_true, Bool.true_or, Bool.false_or, Bool.or_false, List.isEmpty_nil, List.isEmpty_cons, if_pos, reduceIte, Bool.false_eq_true, eq_self, and_self, and_true, true_and, ↓reduceIte, Nat.le_refl, reduceCtorEq, Nat.sub_self, List.all_cons, List.all_nil, Bool.false_and, Nat.zero_le, Nat.reduceLeDiff, Nat.reduceEqDiff, Int.cast_ofNat_Int, Int.reduceLE, Int.reduceLT, Int.reduceEq, Int.reduceNe, Int.reduceAdd, Int.reduceSub, Int.reduceMul, Int.reduceNeg, Int.reduceToNat, decide_true, decide_false, ne_eq, not_true_eq_false, not_false_eq_true]
  have inL : ∀ y ∈ (D.str "" :: ps.map fun p => D.str p.nm), ∃ a : Str, y = .str a ∧ (a = "" ∨ a ∈ ps.map (·.nm)) := fun y hy => by
    rcases List.mem_cons.mp hy with rfl | hy
    · exact ⟨_, rfl, .inl rfl⟩
    · obtain ⟨p, hp, rfl⟩ := List.mem_map.mp hy
      exact ⟨_, rfl, .inr (List.mem_map.mpr ⟨p, hp, rfl⟩)⟩
  have c1' := cut_last (xs := D.str "" :: ps.map fun p => D.str p.nm) (n := 1) (by simp) (by decide)
  have c2' := cut_to_in (xs := D.str "" :: ps.map fun p => D.str p.nm) (n := 2) (by simp) (by decide)
  have c3' := cut_last (xs := D.str "" :: ps.map fun p => D.str p.nm) (n := 3) (by simp) (by decide)
  obtain ⟨S0, hS, S, rfl, S3, S1, S2⟩ := four (P := fun y => ∃ S : List D, y = .lst S ∧ S.length ≤ (D.str "" :: ps.map fun p => D.str p.nm).length ∧ S ≠ [] ∧ ∀ z ∈ S, z ∈ (D.str "" :: ps.map fun p => D.str p.nm)) w0 w1 (a := .lst (D.str "" :: ps.map fun p => D.str p.nm)) (b := .lst (cutD (D.str "" :: ps.map fun p => D.str p.nm) (some (-1)) none)) (c := .lst (cutD (D.str "" :: ps.map fun p => D.str p.nm) none (some 2))) (d := .lst (cutD (D.str "" :: ps.map fun p => D.str p.nm) (some (-3)) none)) ⟨_, rfl, Nat.le_refl _, by simp, fun _ h => h⟩ ⟨_, rfl, cut_len _ _ _, c1'⟩ ⟨_, rfl, cut_len _ _ _, c2'⟩ ⟨_, rfl, cut_len _ _ _, c3'⟩
  have s3 : sSet 10 (eBin gIx (eLst [eVar 10, eSl (eVar 10) (some (eUn gNeg (eC (.int 1)))) none, eSl (eVar 10) none (some (eC (.int 2))), eSl (eVar 10) (some (eUn gNeg (eC (.int 3)))) none]) (eVar 2)) (treeE l3 c t3 most way many w d ps (.v x0) (.v (.str x)) (.v (.int tk)) (.o false false (.l (.str "" :: ps.map fun p => .str p.nm))) sc) = .ok .nx (treeE l3 c t3 most way many w d ps (.v x0) (.v (.str x)) (.v (.int tk)) (.v (.lst S)) sc) := by
    simp only [treeE, gSl, gNeg, hS, DL.le_size, DL.lt_size, Int.reducePow, Nat.reducePow, Int.reduceLT, or_true, true_or, or_false, false_or, or_self, DL.k_NoneType_int, DL.k_NoneType_str, DL.k_NoneType_tuple, DL.k_NoneType_list, DL.k_NoneType_bool, DL.k_bool_int, DL.k_bool_str, DL.k_bool_tuple, DL.k_bool_list, DL.k_bool_bool, DL.k_int_int, DL.k_int_str, DL.k_int_tuple, DL.k_int_list, DL.k_int_bool, DL.k_str_int, DL.k_str_str, DL.k_str_tuple, DL.k_str_list, DL.k_str_bool, DL.k_list_int, DL.k_list_str, DL.k_list_tuple, DL.k_list_list, DL.k_list_bool, DL.k_tuple_int, DL.k_tuple_str, DL.k_tuple_tuple, DL.k_tuple_list, DL.k_tuple_bool, DL.k_dict_int, DL.k_dict_str, DL.k_dict_tuple, DL.k_dict_list, DL.k_dict_bool, DL.runDef, DL.sSeq, DL.sIf, DL.sE, DL.sSet, DL.sRet, DL.sNx, DL.sPar, DL.assign, DL.free_z, DL.free_s, DL.okB_u, DL.okB_v, DL.okB_o, DL.fresh, DL.toD, DL.peek, DL.peeks, DL.giv, DL.eC, DL.eVar, DL.eUn, DL.eBin, DL.eT, DL.eB, DL.tNotE, DL.tAndE, DL.tOrE, DL.eIf, DL.eNot, DL.eAnd, DL.eOr, DL.eChain, DL.eDs, DL.eTup, DL.eLst, DL.eVs, DL.eBi, DL.eDct, DL.eKs, DL.mergeD, DL.sPut, DL.sFor, DL.sAsg, DL.tgN, DL.tgT, DL.tgs, DL.eMut, DL.gAppend, DL.eM1, DL.eFmt, DL.eJs, DL.eSl, DL.ePart, DL.gIx, DL.keyD, DL.gAdd, DL.gSub, DL.gMul, DL.gMod, DL.gDiv, DL.gPow, DL.gLt, DL.gLe, DL.gGt, DL.gGe, DL.gIs, DL.gIsNot, DL.isNon, DL.gIsi, DL.tyD, DL.gLen, DL.gTuple, DL.sv, DL.truth, DL.eCall, DL.eArgs, DL.callF, DL.slotsOf, DL.countIo, DL.ioOf, DL.borsOf, DL.borOk, DL.back1, DL.putBack, DL.nolR, DL.nolM, DL.nolO, DL.fin, DL.ioM, DL.M.toD, DL.bind_ok, DL.bind_no, Option.bind_some, Option.bind_none, Option.map_some, Option.map_none, List.length_cons, List.length_nil, List.length_append, List.length_map, List.append_nil, List.nil_append, List.cons_append, List.map_cons, List.map_nil, List.replicate, List.getElem?_cons_zero, List.getElem?_cons_succ, List.getElem?_nil, List.set_cons_zero, List.set_cons_succ, Nat.zero_add, Nat.add_zero, Nat.reduceAdd, Nat.reduceSub, if_true, if_false, Bool.not_true, Bool.not_false, Bool.and_self, Bool.and_true, Bool.true_and, Bool.or_true, Bool.true_or, Bool.false_or, Bool.or_false, List.isEmpty_nil, List.isEmpty_cons, if_pos, reduceIte, Bool.false_eq_true, eq_self, and_self, and_true, true_and, ↓reduceIte, Nat.le_refl, reduceCtorEq, Nat.sub_self, List.all_cons, List.all_nil, Bool.false_and, Nat.zero_le, Nat.reduceLeDiff, Nat.reduceEqDiff, Int.cast_ofNat_Int, Int.reduceLE, Int.reduceLT, Int.reduceEq, Int.reduceNe, Int.reduceAdd, Int.reduceSub, Int.reduceMul, Int.reduceNeg, Int.reduceToNat, decide_true, decide_false, ne_eq, not_true_eq_false, not_false_eq_true]
  have Sl : 0 < S.length := List.length_pos_iff.mpr S1
  have Sm : S.length < 1073741824 := by
    rw [List.length_cons, List.length_map] at S3
    omega
  obtain ⟨rs, l4, t4, d0, d1, d2, d3, hrs⟩ := digit_ok l3 c t3 S.length (by omega) (by omega) (by omega) (by omega)
  obtain ⟨y, hy, hyS⟩ := atI_in d0 d1
  obtain ⟨cl, rfl, hcl⟩ := inL y (S2 y hyS)
  have s4 : sSet 11 (eBin gIx (eVar 10) (eCall F__law_digit 2 (some 0) [] [(.io, eVar 0), (.v, eBi gLen [eVar 10])])) (treeE l3 c t3 most way many w d ps (.v x0) (.v (.str x)) (.v (.int tk)) (.v (.lst S)) sc) = .ok .nx (treeE l4 c t4 most way many w d ps (.v x0) (.v (.str x)) (.v (.int tk)) (.v (.lst S)) (.v (.str cl))) := by
    simp only [treeE, hrs, hy, oc, DL.le_size, DL.lt_size, Int.reducePow, Nat.reducePow, Int.reduceLT, or_true, true_or, or_false, false_or, or_self, DL.k_NoneType_int, DL.k_NoneType_str, DL.k_NoneType_tuple, DL.k_NoneType_list, DL.k_NoneType_bool, DL.k_bool_int, DL.k_bool_str, DL.k_bool_tuple, DL.k_bool_list, DL.k_bool_bool, DL.k_int_int, DL.k_int_str, DL.k_int_tuple, DL.k_int_list, DL.k_int_bool, DL.k_str_int, DL.k_str_str, DL.k_str_tuple, DL.k_str_list, DL.k_str_bool, DL.k_list_int, DL.k_list_str, DL.k_list_tuple, DL.k_list_list, DL.k_list_bool, DL.k_tuple_int, DL.k_tuple_str, DL.k_tuple_tuple, DL.k_tuple_list, DL.k_tuple_bool, DL.k_dict_int, DL.k_dict_str, DL.k_dict_tuple, DL.k_dict_list, DL.k_dict_bool, DL.runDef, DL.sSeq, DL.sIf, DL.sE, DL.sSet, DL.sRet, DL.sNx, DL.sPar, DL.assign, DL.free_z, DL.free_s, DL.okB_u, DL.okB_v, DL.okB_o, DL.fresh, DL.toD, DL.peek, DL.peeks, DL.giv, DL.eC, DL.eVar, DL.eUn, DL.eBin, DL.eT, DL.eB, DL.tNotE, DL.tAndE, DL.tOrE, DL.eIf, DL.eNot, DL.eAnd, DL.eOr, DL.eChain, DL.eDs, DL.eTup, DL.eLst, DL.eVs, DL.eBi, DL.eDct, DL.eKs, DL.mergeD, DL.sPut, DL.sFor, DL.sAsg, DL.tgN, DL.tgT, DL.tgs, DL.eMut, DL.gAppend, DL.eM1, DL.eFmt, DL.eJs, DL.eSl, DL.ePart, DL.gIx, DL.keyD, DL.gAdd, DL.gSub, DL.gMul, DL.gMod, DL.gDiv, DL.gPow, DL.gLt, DL.gLe, DL.gGt, DL.gGe, DL.gIs, DL.gIsNot, DL.isNon, DL.gIsi, DL.tyD, DL.gLen, DL.gTuple, DL.sv, DL.truth, DL.eCall, DL.eArgs, DL.callF, DL.slotsOf, DL.countIo, DL.ioOf, DL.borsOf, DL.borOk, DL.back1, DL.putBack, DL.nolR, DL.nolM, DL.nolO, DL.fin, DL.ioM, DL.M.toD, DL.bind_ok, DL.bind_no, Option.bind_some, Option.bind_none, Option.map_some, Option.map_none, List.length_cons, List.length_nil, List.length_append, List.length_map, List.append_nil, List.nil_append, List.cons_append, List.map_cons, List.map_nil, List.replicate, List.getElem?_cons_zero, List.getElem?_cons_succ, List.getElem?_nil, List.set_cons_zero, List.set_cons_succ, Nat.zero_add, Nat.add_zero, Nat.reduceAdd, Nat.reduceSub, if_true, if_false, Bool.not_true, Bool.not_false, Bool.and_self, Bool.and_true, Bool.true_and, Bool.or_true, Bool.true_or, Bool.false_or, Bool.or_false, List.isEmpty_nil, List.isEmpty_cons, if_pos, reduceIte, Bool.false_eq_true, eq_self, and_self, and_true, true_and, ↓reduceIte, Nat.le_refl, reduceCtorEq, Nat.sub_self, List.all_cons, List.all_nil, Bool.false_and, Nat.zero_le, Nat.reduceLeDiff, Nat.reduceEqDiff, Int.cast_ofNat_Int, Int.reduceLE, Int.reduceLT, Int.reduceEq, Int.reduceNe, Int.reduceAdd, Int.reduceSub, Int.reduceMul, Int.reduceNeg, Int.reduceToNat, decide_true, decide_false, ne_eq, not_true_eq_false, not_false_eq_true]
  have nms : (ps.map fun p => D.str p.nm) = (ps.map (·.nm)).map D.str := by rw [List.map_map]; rfl
  have inn : inD (.str x) (.lst (ps.map fun p => D.str p.nm)) = some (decide (x ∈ ps.map (·.nm))) := by rw [nms]; exact in_strs _ _
  have z3 : ps.length < sizeLine := by omega
  have fin : ∃ ps', sIf (tAndE (eB (eBin gNotIn (eVar 8) (eVar 5))) (eB (eBin gLt (eBi gLen [eVar 5]) (eVar 3)))) (sSeq (sE (eMut gAppend 5 [eVar 8])) (sE (eMut gAppend 6 [eTup [eVar 8, eVar 11, eVar 9]]))) sNx (treeE l4 c t4 most way many w d ps (.v x0) (.v (.str x)) (.v (.int tk)) (.v (.lst S)) (.v (.str cl))) = .ok .nx (treeE l4 c t4 most way many w d ps' (.v x0) (.v (.str x)) (.v (.int tk)) (.v (.lst S)) (.v (.str cl))) ∧ GoodP ps' ∧ (ps'.length : Int) ≤ many := by
    by_cases h1 : x ∈ ps.map (·.nm)
    · refine ⟨ps, ?_, g, pm⟩
      simp only [treeE, gNotIn, inn, decide_eq_true h1, DL.le_size, DL.lt_size, Int.reducePow, Nat.reducePow, Int.reduceLT, or_true, true_or, or_false, false_or, or_self, DL.k_NoneType_int, DL.k_NoneType_str, DL.k_NoneType_tuple, DL.k_NoneType_list, DL.k_NoneType_bool, DL.k_bool_int, DL.k_bool_str, DL.k_bool_tuple, DL.k_bool_list, DL.k_bool_bool, DL.k_int_int, DL.k_int_str, DL.k_int_tuple, DL.k_int_list, DL.k_int_bool, DL.k_str_int, DL.k_str_str, DL.k_str_tuple, DL.k_str_list, DL.k_str_bool, DL.k_list_int, DL.k_list_str, DL.k_list_tuple, DL.k_list_list, DL.k_list_bool, DL.k_tuple_int, DL.k_tuple_str, DL.k_tuple_tuple, DL.k_tuple_list, DL.k_tuple_bool, DL.k_dict_int, DL.k_dict_str, DL.k_dict_tuple, DL.k_dict_list, DL.k_dict_bool, DL.runDef, DL.sSeq, DL.sIf, DL.sE, DL.sSet, DL.sRet, DL.sNx, DL.sPar, DL.assign, DL.free_z, DL.free_s, DL.okB_u, DL.okB_v, DL.okB_o, DL.fresh, DL.toD, DL.peek, DL.peeks, DL.giv, DL.eC, DL.eVar, DL.eUn, DL.eBin, DL.eT, DL.eB, DL.tNotE, DL.tAndE, DL.tOrE, DL.eIf, DL.eNot, DL.eAnd, DL.eOr, DL.eChain, DL.eDs, DL.eTup, DL.eLst, DL.eVs, DL.eBi, DL.eDct, DL.eKs, DL.mergeD, DL.sPut, DL.sFor, DL.sAsg, DL.tgN, DL.tgT, DL.tgs, DL.eMut, DL.gAppend, DL.eM1, DL.eFmt, DL.eJs, DL.eSl, DL.ePart, DL.gIx, DL.keyD, DL.gAdd, DL.gSub, DL.gMul, DL.gMod, DL.gDiv, DL.gPow, DL.gLt, DL.gLe, DL.gGt, DL.gGe, DL.gIs, DL.gIsNot, DL.isNon, DL.gIsi, DL.tyD, DL.gLen, DL.gTuple, DL.sv, DL.truth, DL.eCall, DL.eArgs, DL.callF, DL.slotsOf, DL.countIo, DL.ioOf, DL.borsOf, DL.borOk, DL.back1, DL.putBack, DL.nolR, DL.nolM, DL.nolO, DL.fin, DL.ioM, DL.M.toD, DL.bind_ok, DL.bind_no, Option.bind_some, Option.bind_none, Option.map_some, Option.map_none, List.length_cons, List.length_nil, List.length_append, List.length_map, List.append_nil, List.nil_append, List.cons_append, List.map_cons, List.map_nil, List.replicate, List.getElem?_cons_zero, List.getElem?_cons_succ, List.getElem?_nil, List.set_cons_zero, List.set_cons_succ, Nat.zero_add, Nat.add_zero, Nat.reduceAdd, Nat.reduceSub, if_true, if_false, Bool.not_true, Bool.not_false, Bool.and_self, Bool.and_true, Bool.true_and, Bool.or_true, Bool.true_or, Bool.false_or, Bool.or_false, List.isEmpty_nil, List.isEmpty_cons, if_pos, reduceIte, Bool.false_eq_true, eq_self, and_self, and_true, true_and, ↓reduceIte, Nat.le_refl, reduceCtorEq, Nat.sub_self, List.all_cons, List.all_nil, Bool.false_and, Nat.zero_le, Nat.reduceLeDiff, Nat.reduceEqDiff, Int.cast_ofNat_Int, Int.reduceLE, Int.reduceLT, Int.reduceEq, Int.reduceNe, Int.reduceAdd, Int.reduceSub, Int.reduceMul, Int.reduceNeg, Int.reduceToNat, decide_true, decide_false, ne_eq, not_true_eq_false, not_false_eq_true]
    · by_cases h2 : (ps.length : Int) < many
      · refine ⟨ps ++ [⟨x, cl, tk⟩], ?_, .snoc g hx h1 tk0 tk1 hcl, by rw [List.length_append]; simp; omega⟩
        simp only [treeE, gNotIn, inn, decide_eq_false h1, decide_eq_true h2, z3, List.map_append, pD, DL.le_size, DL.lt_size, Int.reducePow, Nat.reducePow, Int.reduceLT, or_true, true_or, or_false, false_or, or_self, DL.k_NoneType_int, DL.k_NoneType_str, DL.k_NoneType_tuple, DL.k_NoneType_list, DL.k_NoneType_bool, DL.k_bool_int, DL.k_bool_str, DL.k_bool_tuple, DL.k_bool_list, DL.k_bool_bool, DL.k_int_int, DL.k_int_str, DL.k_int_tuple, DL.k_int_list, DL.k_int_bool, DL.k_str_int, DL.k_str_str, DL.k_str_tuple, DL.k_str_list, DL.k_str_bool, DL.k_list_int, DL.k_list_str, DL.k_list_tuple, DL.k_list_list, DL.k_list_bool, DL.k_tuple_int, DL.k_tuple_str, DL.k_tuple_tuple, DL.k_tuple_list, DL.k_tuple_bool, DL.k_dict_int, DL.k_dict_str, DL.k_dict_tuple, DL.k_dict_list, DL.k_dict_bool, DL.runDef, DL.sSeq, DL.sIf, DL.sE, DL.sSet, DL.sRet, DL.sNx, DL.sPar, DL.assign, DL.free_z, DL.free_s, DL.okB_u, DL.okB_v, DL.okB_o, DL.fresh, DL.toD, DL.peek, DL.peeks, DL.giv, DL.eC, DL.eVar, DL.eUn, DL.eBin, DL.eT, DL.eB, DL.tNotE, DL.tAndE, DL.tOrE, DL.eIf, DL.eNot, DL.eAnd, DL.eOr, DL.eChain, DL.eDs, DL.eTup, DL.eLst, DL.eVs, DL.eBi, DL.eDct, DL.eKs, DL.mergeD, DL.sPut, DL.sFor, DL.sAsg, DL.tgN, DL.tgT, DL.tgs, DL.eMut, DL.gAppend, DL.eM1, DL.eFmt, DL.eJs, DL.eSl, DL.ePart, DL.gIx, DL.keyD, DL.gAdd, DL.gSub, DL.gMul, DL.gMod, DL.gDiv, DL.gPow, DL.gLt, DL.gLe, DL.gGt, DL.gGe, DL.gIs, DL.gIsNot, DL.isNon, DL.gIsi, DL.tyD, DL.gLen, DL.gTuple, DL.sv, DL.truth, DL.eCall, DL.eArgs, DL.callF, DL.slotsOf, DL.countIo, DL.ioOf, DL.borsOf, DL.borOk, DL.back1, DL.putBack, DL.nolR, DL.nolM, DL.nolO, DL.fin, DL.ioM, DL.M.toD, DL.bind_ok, DL.bind_no, Option.bind_some, Option.bind_none, Option.map_some, Option.map_none, List.length_cons, List.length_nil, List.length_append, List.length_map, List.append_nil, List.nil_append, List.cons_append, List.map_cons, List.map_nil, List.replicate, List.getElem?_cons_zero, List.getElem?_cons_succ, List.getElem?_nil, List.set_cons_zero, List.set_cons_succ, Nat.zero_add, Nat.add_zero, Nat.reduceAdd, Nat.reduceSub, if_true, if_false, Bool.not_true, Bool.not_false, Bool.and_self, Bool.and_true, Bool.true_and, Bool.or_true, Bool.true_or, Bool.false_or, Bool.or_false, List.isEmpty_nil, List.isEmpty_cons, if_pos, reduceIte, Bool.false_eq_true, eq_self, and_self, and_true, true_and, ↓reduceIte, Nat.le_refl, reduceCtorEq, Nat.sub_self, List.all_cons, List.all_nil, Bool.false_and, Nat.zero_le, Nat.reduceLeDiff, Nat.reduceEqDiff, Int.cast_ofNat_Int, Int.reduceLE, Int.reduceLT, Int.reduceEq, Int.reduceNe, Int.reduceAdd, Int.reduceSub, Int.reduceMul, Int.reduceNeg, Int.reduceToNat, decide_true, decide_false, ne_eq, not_true_eq_false, not_false_eq_true]
      · refine ⟨ps, ?_, g, pm⟩
        simp only [treeE, gNotIn, inn, decide_eq_false h1, decide_eq_false h2, DL.le_size, DL.lt_size, Int.reducePow, Nat.reducePow, Int.reduceLT, or_true, true_or, or_false, false_or, or_self, DL.k_NoneType_int, DL.k_NoneType_str, DL.k_NoneType_tuple, DL.k_NoneType_list, DL.k_NoneType_bool, DL.k_bool_int, DL.k_bool_str, DL.k_bool_tuple, DL.k_bool_list, DL.k_bool_bool, DL.k_int_int, DL.k_int_str, DL.k_int_tuple, DL.k_int_list, DL.k_int_bool, DL.k_str_int, DL.k_str_str, DL.k_str_tuple, DL.k_str_list, DL.k_str_bool, DL.k_list_int, DL.k_list_str, DL.k_list_tuple, DL.k_list_list, DL.k_list_bool, DL.k_tuple_int, DL.k_tuple_str, DL.k_tuple_tuple, DL.k_tuple_list, DL.k_tuple_bool, DL.k_dict_int, DL.k_dict_str, DL.k_dict_tuple, DL.k_dict_list, DL.k_dict_bool, DL.runDef, DL.sSeq, DL.sIf, DL.sE, DL.sSet, DL.sRet, DL.sNx, DL.sPar, DL.assign, DL.free_z, DL.free_s, DL.okB_u, DL.okB_v, DL.okB_o, DL.fresh, DL.toD, DL.peek, DL.peeks, DL.giv, DL.eC, DL.eVar, DL.eUn, DL.eBin, DL.eT, DL.eB, DL.tNotE, DL.tAndE, DL.tOrE, DL.eIf, DL.eNot, DL.eAnd, DL.eOr, DL.eChain, DL.eDs, DL.eTup, DL.eLst, DL.eVs, DL.eBi, DL.eDct, DL.eKs, DL.mergeD, DL.sPut, DL.sFor, DL.sAsg, DL.tgN, DL.tgT, DL.tgs, DL.eMut, DL.gAppend, DL.eM1, DL.eFmt, DL.eJs, DL.eSl, DL.ePart, DL.gIx, DL.keyD, DL.gAdd, DL.gSub, DL.gMul, DL.gMod, DL.gDiv, DL.gPow, DL.gLt, DL.gLe, DL.gGt, DL.gGe, DL.gIs, DL.gIsNot, DL.isNon, DL.gIsi, DL.tyD, DL.gLen, DL.gTuple, DL.sv, DL.truth, DL.eCall, DL.eArgs, DL.callF, DL.slotsOf, DL.countIo, DL.ioOf, DL.borsOf, DL.borOk, DL.back1, DL.putBack, DL.nolR, DL.nolM, DL.nolO, DL.fin, DL.ioM, DL.M.toD, DL.bind_ok, DL.bind_no, Option.bind_some, Option.bind_none, Option.map_some, Option.map_none, List.length_cons, List.length_nil, List.length_append, List.length_map, List.append_nil, List.nil_append, List.cons_append, List.map_cons, List.map_nil, List.replicate, List.getElem?_cons_zero, List.getElem?_cons_succ, List.getElem?_nil, List.set_cons_zero, List.set_cons_succ, Nat.zero_add, Nat.add_zero, Nat.reduceAdd, Nat.reduceSub, if_true, if_false, Bool.not_true, Bool.not_false, Bool.and_self, Bool.and_true, Bool.true_and, Bool.or_true, Bool.true_or, Bool.false_or, Bool.or_false, List.isEmpty_nil, List.isEmpty_cons, if_pos, reduceIte, Bool.false_eq_true, eq_self, and_self, and_true, true_and, ↓reduceIte, Nat.le_refl, reduceCtorEq, Nat.sub_self, List.all_cons, List.all_nil, Bool.false_and, Nat.zero_le, Nat.reduceLeDiff, Nat.reduceEqDiff, Int.cast_ofNat_Int, Int.reduceLE, Int.reduceLT, Int.reduceEq, Int.reduceNe, Int.reduceAdd, Int.reduceSub, Int.reduceMul, Int.reduceNeg, Int.reduceToNat, decide_true, decide_false, ne_eq, not_true_eq_false, not_false_eq_true]
  obtain ⟨ps', s5, g', pm'⟩ := fin
  refine ⟨_, l4, t4, ps', .v (.str x), .v (.int tk), .v (.lst S), .v (.str cl), by simp only [treeE, oj, DL.le_size, DL.lt_size, Int.reducePow, Nat.reducePow, Int.reduceLT, or_true, true_or, or_false, false_or, or_self, DL.k_NoneType_int, DL.k_NoneType_str, DL.k_NoneType_tuple, DL.k_NoneType_list, DL.k_NoneType_bool, DL.k_bool_int, DL.k_bool_str, DL.k_bool_tuple, DL.k_bool_list, DL.k_bool_bool, DL.k_int_int, DL.k_int_str, DL.k_int_tuple, DL.k_int_list, DL.k_int_bool, DL.k_str_int, DL.k_str_str, DL.k_str_tuple, DL.k_str_list, DL.k_str_bool, DL.k_list_int, DL.k_list_str, DL.k_list_tuple, DL.k_list_list, DL.k_list_bool, DL.k_tuple_int, DL.k_tuple_str, DL.k_tuple_tuple, DL.k_tuple_list, DL.k_tuple_bool, DL.k_dict_int, DL.k_dict_str, DL.k_dict_tuple, DL.k_dict_list, DL.k_dict_bool, DL.runDef, DL.sSeq, DL.sIf, DL.sE, DL.sSet, DL.sRet, DL.sNx, DL.sPar, DL.assign, DL.free_z, DL.free_s, DL.okB_u, DL.okB_v, DL.okB_o, DL.fresh, DL.toD, DL.peek, DL.peeks, DL.giv, DL.eC, DL.eVar, DL.eUn, DL.eBin, DL.eT, DL.eB, DL.tNotE, DL.tAndE, DL.tOrE, DL.eIf, DL.eNot, DL.eAnd, DL.eOr, DL.eChain, DL.eDs, DL.eTup, DL.eLst, DL.eVs, DL.eBi, DL.eDct, DL.eKs, DL.mergeD, DL.sPut, DL.sFor, DL.sAsg, DL.tgN, DL.tgT, DL.tgs, DL.eMut, DL.gAppend, DL.eM1, DL.eFmt, DL.eJs, DL.eSl, DL.ePart, DL.gIx, DL.keyD, DL.gAdd, DL.gSub, DL.gMul, DL.gMod, DL.gDiv, DL.gPow, DL.gLt, DL.gLe, DL.gGt, DL.gGe, DL.gIs, DL.gIsNot, DL.isNon, DL.gIsi, DL.tyD, DL.gLen, DL.gTuple, DL.sv, DL.truth, DL.eCall, DL.eArgs, DL.callF, DL.slotsOf, DL.countIo, DL.ioOf, DL.borsOf, DL.borOk, DL.back1, DL.putBack, DL.nolR, DL.nolM, DL.nolO, DL.fin, DL.ioM, DL.M.toD, DL.bind_ok, DL.bind_no, Option.bind_some, Option.bind_none, Option.map_some, Option.map_none, List.length_cons, List.length_nil, List.length_append, List.length_map, List.append_nil, List.nil_append, List.cons_append, List.map_cons, List.map_nil, List.replicate, List.getElem?_cons_zero, List.getElem?_cons_succ, List.getElem?_nil, List.set_cons_zero, List.set_cons_succ, Nat.zero_add, Nat.add_zero, Nat.reduceAdd, Nat.reduceSub, if_true, if_false, Bool.not_true, Bool.not_false, Bool.and_self, Bool.and_true, Bool.true_and, Bool.or_true, Bool.true_or, Bool.false_or, Bool.or_false, List.isEmpty_nil, List.isEmpty_cons, if_pos, reduceIte, Bool.false_eq_true, eq_self, and_self, and_true, true_and, ↓reduceIte, Nat.le_refl, reduceCtorEq, Nat.sub_self, List.all_cons, List.all_nil, Bool.false_and, Nat.zero_le, Nat.reduceLeDiff, Nat.reduceEqDiff, Int.cast_ofNat_Int, Int.reduceLE, Int.reduceLT, Int.reduceEq, Int.reduceNe, Int.reduceAdd, Int.reduceSub, Int.reduceMul, Int.reduceNeg, Int.reduceToNat, decide_true, decide_false, ne_eq, not_true_eq_false, not_false_eq_true], ?_, rfl, g', pm', by omega, by omega, rfl, rfl, rfl, rfl⟩
  exact (sSeq_nx s1).trans ((sSeq_nx s2).trans ((sSeq_nx s3).trans ((sSeq_nx s4).trans s5)))
theorem tree_ok (l c t most : Int) (h0 : 0 ≤ t) (h1 : t + 4000 < 2 ^ 40) (m0 : 0 ≤ most) (m1 : most ≤ 16) : ∃ (l' t' w d : Int) (ps : List Prs), GoodP ps ∧ ps.length ≤ 16 ∧ 1 ≤ w ∧ w ≤ 60 ∧ 0 ≤ d ∧ d ≤ 4 ∧ t ≤ t' ∧ t' ≤ t + 3000 ∧
    F__law_tree [.o true false (.d (stD l c t)), .v (.int most)] = .ok (.v (.tup [.int w, .int d, .tup (ps.map pD)])) (some (.d (stD l' c t'))) := by
  obtain ⟨way, l1, t1, a0, a1, a2, a3, hr1⟩ := digit_ok l c t 4 (by omega) (by omega) (by decide) (by decide)
  obtain ⟨many, l2, t2, b0, b1, b2, b3, hr2⟩ := digit_ok l1 c t1 (most + 1) (by omega) (by omega) (by omega) (by omega)
  obtain ⟨w, l3, t3, c0, c1, c2, c3, hr3⟩ := digit_ok l2 c t2 60 (by omega) (by omega) (by decide) (by decide)
  obtain ⟨d, l4, t4, d0, d1, d2, d3, hr4⟩ := digit_ok l3 c t3 5 (by omega) (by omega) (by decide) (by decide)
  have s1 : sPar 2 3 (eCall F__law_digit 2 (some 0) [] [(.io, eVar 0), (.v, eC (.int 4))]) (eCall F__law_digit 2 (some 0) [] [(.io, eVar 0), (.v, eBin gAdd (eVar 1) (eC (.int 1)))]) [.o true false (.d (stD l c t)), .v (.int most), .u, .u, .u, .u, .u, .u, .u, .u, .u, .u] = .ok .nx [.o true false (.d (stD l2 c t2)), .v (.int most), .v (.int way), .v (.int many), .u, .u, .u, .u, .u, .u, .u, .u] := by
    simp only [hr1, hr2, DL.le_size, DL.lt_size, Int.reducePow, Nat.reducePow, Int.reduceLT, or_true, true_or, or_false, false_or, or_self, DL.k_NoneType_int, DL.k_NoneType_str, DL.k_NoneType_tuple, DL.k_NoneType_list, DL.k_NoneType_bool, DL.k_bool_int, DL.k_bool_str, DL.k_bool_tuple, DL.k_bool_list, DL.k_bool_bool, DL.k_int_int, DL.k_int_str, DL.k_int_tuple, DL.k_int_list, DL.k_int_bool, DL.k_str_int, DL.k_str_str, DL.k_str_tuple, DL.k_str_list, DL.k_str_bool, DL.k_list_int, DL.k_list_str, DL.k_list_tuple, DL.k_list_list, DL.k_list_bool, DL.k_tuple_int, DL.k_tuple_str, DL.k_tuple_tuple, DL.k_tuple_list, DL.k_tuple_bool, DL.k_dict_int, DL.k_dict_str, DL.k_dict_tuple, DL.k_dict_list, DL.k_dict_bool, DL.runDef, DL.sSeq, DL.sIf, DL.sE, DL.sSet, DL.sRet, DL.sNx, DL.sPar, DL.assign, DL.free_z, DL.free_s, DL.okB_u, DL.okB_v, DL.okB_o, DL.fresh, DL.toD, DL.peek, DL.peeks, DL.giv, DL.eC, DL.eVar, DL.eUn, DL.eBin, DL.eT, DL.eB, DL.tNotE, DL.tAndE, DL.tOrE, DL.eIf, DL.eNot, DL.eAnd, DL.eOr, DL.eChain, DL.eDs, DL.eTup, DL.eLst, DL.eVs, DL.eBi, DL.eDct, DL.eKs, DL.mergeD, DL.sPut, DL.sFor, DL.sAsg, DL.tgN, DL.tgT, DL.tgs, DL.eMut, DL.gAppend, DL.eM1, DL.eFmt, DL.eJs, DL.eSl, DL.ePart, DL.gIx, DL.keyD, DL.gAdd, DL.gSub, DL.gMul, DL.gMod, DL.gDiv, DL.gPow, DL.gLt, DL.gLe, DL.gGt, DL.gGe, DL.gIs, DL.gIsNot, DL.isNon, DL.gIsi, DL.tyD, DL.gLen, DL.gTuple, DL.sv, DL.truth, DL.eCall, DL.eArgs, DL.callF, DL.slotsOf, DL.countIo, DL.ioOf, DL.borsOf, DL.borOk, DL.back1, DL.putBack, DL.nolR, DL.nolM, DL.nolO, DL.fin, DL.ioM, DL.M.toD, DL.bind_ok, DL.bind_no, Option.bind_some, Option.bind_none, Option.map_some, Option.map_none, List.length_cons, List.length_nil, List.length_append, List.length_map, List.append_nil, List.nil_append, List.cons_append, List.map_cons, List.map_nil, List.replicate, List.getElem?_cons_zero, List.getElem?_cons_succ, List.getElem?_nil, List.set_cons_zero, List.set_cons_succ, Nat.zero_add, Nat.add_zero, Nat.reduceAdd, Nat.reduceSub, if_true, if_false, Bool.not_true, Bool.not_false, Bool.and_self, Bool.and_true, Bool.true_and, Bool.or_true, Bool.true_or, Bool.false_or, Bool.or_false, List.isEmpty_nil, List.isEmpty_cons, if_pos, reduceIte, Bool.false_eq_true, eq_self, and_self, and_true, true_and, ↓reduceIte, Nat.le_refl, reduceCtorEq, Nat.sub_self, List.all_cons, List.all_nil, Bool.false_and, Nat.zero_le, Nat.reduceLeDiff, Nat.reduceEqDiff, Int.cast_ofNat_Int, Int.reduceLE, Int.reduceLT, Int.reduceEq, Int.reduceNe, Int.reduceAdd, Int.reduceSub, Int.reduceMul, Int.reduceNeg, Int.reduceToNat, decide_true, decide_false, ne_eq, not_true_eq_false, not_false_eq_true]
  have s2 : sSet 4 (eTup [eBin gAdd (eC (.int 1)) (eCall F__law_digit 2 (some 0) [] [(.io, eVar 0), (.v, eC (.int 60))]), eCall F__law_digit 2 (some 0) [] [(.io, eVar 0), (.v, eC (.int 5))]]) [.o true false (.d (stD l2 c t2)), .v (.int most), .v (.int way), .v (.int many), .u, .u, .u, .u, .u, .u, .u, .u] = .ok .nx [.o true false (.d (stD l4 c t4)), .v (.int most), .v (.int way), .v (.int many), .v (.tup [.int (1 + w), .int d]), .u, .u, .u, .u, .u, .u, .u] := by
    simp only [hr3, hr4, DL.le_size, DL.lt_size, Int.reducePow, Nat.reducePow, Int.reduceLT, or_true, true_or, or_false, false_or, or_self, DL.k_NoneType_int, DL.k_NoneType_str, DL.k_NoneType_tuple, DL.k_NoneType_list, DL.k_NoneType_bool, DL.k_bool_int, DL.k_bool_str, DL.k_bool_tuple, DL.k_bool_list, DL.k_bool_bool, DL.k_int_int, DL.k_int_str, DL.k_int_tuple, DL.k_int_list, DL.k_int_bool, DL.k_str_int, DL.k_str_str, DL.k_str_tuple, DL.k_str_list, DL.k_str_bool, DL.k_list_int, DL.k_list_str, DL.k_list_tuple, DL.k_list_list, DL.k_list_bool, DL.k_tuple_int, DL.k_tuple_str, DL.k_tuple_tuple, DL.k_tuple_list, DL.k_tuple_bool, DL.k_dict_int, DL.k_dict_str, DL.k_dict_tuple, DL.k_dict_list, DL.k_dict_bool, DL.runDef, DL.sSeq, DL.sIf, DL.sE, DL.sSet, DL.sRet, DL.sNx, DL.sPar, DL.assign, DL.free_z, DL.free_s, DL.okB_u, DL.okB_v, DL.okB_o, DL.fresh, DL.toD, DL.peek, DL.peeks, DL.giv, DL.eC, DL.eVar, DL.eUn, DL.eBin, DL.eT, DL.eB, DL.tNotE, DL.tAndE, DL.tOrE, DL.eIf, DL.eNot, DL.eAnd, DL.eOr, DL.eChain, DL.eDs, DL.eTup, DL.eLst, DL.eVs, DL.eBi, DL.eDct, DL.eKs, DL.mergeD, DL.sPut, DL.sFor, DL.sAsg, DL.tgN, DL.tgT, DL.tgs, DL.eMut, DL.gAppend, DL.eM1, DL.eFmt, DL.eJs, DL.eSl, DL.ePart, DL.gIx, DL.keyD, DL.gAdd, DL.gSub, DL.gMul, DL.gMod, DL.gDiv, DL.gPow, DL.gLt, DL.gLe, DL.gGt, DL.gGe, DL.gIs, DL.gIsNot, DL.isNon, DL.gIsi, DL.tyD, DL.gLen, DL.gTuple, DL.sv, DL.truth, DL.eCall, DL.eArgs, DL.callF, DL.slotsOf, DL.countIo, DL.ioOf, DL.borsOf, DL.borOk, DL.back1, DL.putBack, DL.nolR, DL.nolM, DL.nolO, DL.fin, DL.ioM, DL.M.toD, DL.bind_ok, DL.bind_no, Option.bind_some, Option.bind_none, Option.map_some, Option.map_none, List.length_cons, List.length_nil, List.length_append, List.length_map, List.append_nil, List.nil_append, List.cons_append, List.map_cons, List.map_nil, List.replicate, List.getElem?_cons_zero, List.getElem?_cons_succ, List.getElem?_nil, List.set_cons_zero, List.set_cons_succ, Nat.zero_add, Nat.add_zero, Nat.reduceAdd, Nat.reduceSub, if_true, if_false, Bool.not_true, Bool.not_false, Bool.and_self, Bool.and_true, Bool.true_and, Bool.or_true, Bool.true_or, Bool.false_or, Bool.or_false, List.isEmpty_nil, List.isEmpty_cons, if_pos, reduceIte, Bool.false_eq_true, eq_self, and_self, and_true, true_and, ↓reduceIte, Nat.le_refl, reduceCtorEq, Nat.sub_self, List.all_cons, List.all_nil, Bool.false_and, Nat.zero_le, Nat.reduceLeDiff, Nat.reduceEqDiff, Int.cast_ofNat_Int, Int.reduceLE, Int.reduceLT, Int.reduceEq, Int.reduceNe, Int.reduceAdd, Int.reduceSub, Int.reduceMul, Int.reduceNeg, Int.reduceToNat, decide_true, decide_false, ne_eq, not_true_eq_false, not_false_eq_true]
  have s3 : sPar 5 6 (eLst []) (eLst []) [.o true false (.d (stD l4 c t4)), .v (.int most), .v (.int way), .v (.int many), .v (.tup [.int (1 + w), .int d]), .u, .u, .u, .u, .u, .u, .u] = .ok .nx (treeE l4 c t4 most way many (1 + w) d [] .u .u .u .u .u) := by
    simp only [treeE, DL.le_size, DL.lt_size, Int.reducePow, Nat.reducePow, Int.reduceLT, or_true, true_or, or_false, false_or, or_self, DL.k_NoneType_int, DL.k_NoneType_str, DL.k_NoneType_tuple, DL.k_NoneType_list, DL.k_NoneType_bool, DL.k_bool_int, DL.k_bool_str, DL.k_bool_tuple, DL.k_bool_list, DL.k_bool_bool, DL.k_int_int, DL.k_int_str, DL.k_int_tuple, DL.k_int_list, DL.k_int_bool, DL.k_str_int, DL.k_str_str, DL.k_str_tuple, DL.k_str_list, DL.k_str_bool, DL.k_list_int, DL.k_list_str, DL.k_list_tuple, DL.k_list_list, DL.k_list_bool, DL.k_tuple_int, DL.k_tuple_str, DL.k_tuple_tuple, DL.k_tuple_list, DL.k_tuple_bool, DL.k_dict_int, DL.k_dict_str, DL.k_dict_tuple, DL.k_dict_list, DL.k_dict_bool, DL.runDef, DL.sSeq, DL.sIf, DL.sE, DL.sSet, DL.sRet, DL.sNx, DL.sPar, DL.assign, DL.free_z, DL.free_s, DL.okB_u, DL.okB_v, DL.okB_o, DL.fresh, DL.toD, DL.peek, DL.peeks, DL.giv, DL.eC, DL.eVar, DL.eUn, DL.eBin, DL.eT, DL.eB, DL.tNotE, DL.tAndE, DL.tOrE, DL.eIf, DL.eNot, DL.eAnd, DL.eOr, DL.eChain, DL.eDs, DL.eTup, DL.eLst, DL.eVs, DL.eBi, DL.eDct, DL.eKs, DL.mergeD, DL.sPut, DL.sFor, DL.sAsg, DL.tgN, DL.tgT, DL.tgs, DL.eMut, DL.gAppend, DL.eM1, DL.eFmt, DL.eJs, DL.eSl, DL.ePart, DL.gIx, DL.keyD, DL.gAdd, DL.gSub, DL.gMul, DL.gMod, DL.gDiv, DL.gPow, DL.gLt, DL.gLe, DL.gGt, DL.gGe, DL.gIs, DL.gIsNot, DL.isNon, DL.gIsi, DL.tyD, DL.gLen, DL.gTuple, DL.sv, DL.truth, DL.eCall, DL.eArgs, DL.callF, DL.slotsOf, DL.countIo, DL.ioOf, DL.borsOf, DL.borOk, DL.back1, DL.putBack, DL.nolR, DL.nolM, DL.nolO, DL.fin, DL.ioM, DL.M.toD, DL.bind_ok, DL.bind_no, Option.bind_some, Option.bind_none, Option.map_some, Option.map_none, List.length_cons, List.length_nil, List.length_append, List.length_map, List.append_nil, List.nil_append, List.cons_append, List.map_cons, List.map_nil, List.replicate, List.getElem?_cons_zero, List.getElem?_cons_succ, List.getElem?_nil, List.set_cons_zero, List.set_cons_succ, Nat.zero_add, Nat.add_zero, Nat.reduceAdd, Nat.reduceSub, if_true, if_false, Bool.not_true, Bool.not_false, Bool.and_self, Bool.and_true, Bool.true_and, Bool.or_true, Bool.true_or, Bool.false_or, Bool.or_false, List.isEmpty_nil, List.isEmpty_cons, if_pos, reduceIte, Bool.false_eq_true, eq_self, and_self, and_true, true_and, ↓reduceIte, Nat.le_refl, reduceCtorEq, Nat.sub_self, List.all_cons, List.all_nil, Bool.false_and, Nat.zero_le, Nat.reduceLeDiff, Nat.reduceEqDiff, Int.cast_ofNat_Int, Int.reduceLE, Int.reduceLT, Int.reduceEq, Int.reduceNe, Int.reduceAdd, Int.reduceSub, Int.reduceMul, Int.reduceNeg, Int.reduceToNat, decide_true, decide_false, ne_eq, not_true_eq_false, not_false_eq_true]
  have loop : ∃ e', forL (tgN 7) f0__law_tree ((List.range (2 * many).toNat).map fun i => .int (0 + (i : Nat))) (treeE l4 c t4 most way many (1 + w) d [] .u .u .u .u .u) = .ok .nx e' ∧ ∃ l' t' ps sj sw st ss sc, e' = treeE l' c t' most way many (1 + w) d ps sj sw st ss sc ∧ GoodP ps ∧ (ps.length : Int) ≤ many ∧ t4 ≤ t' ∧ t' ≤ t4 + 60 * ((((List.range (2 * many).toNat).map fun i => D.int (0 + (i : Nat))).length : Nat) : Int) ∧ okB sj = true ∧ okB sw = true ∧ okB st = true ∧ okB ss = true ∧ okB sc = true := by
    refine forL_run (fun i e => ∃ l' t' ps sj sw st ss sc, e = treeE l' c t' most way many (1 + w) d ps sj sw st ss sc ∧ GoodP ps ∧ (ps.length : Int) ≤ many ∧ t4 ≤ t' ∧ t' ≤ t4 + 60 * (i : Int) ∧ okB sj = true ∧ okB sw = true ∧ okB st = true ∧ okB ss = true ∧ okB sc = true) ⟨l4, t4, [], .u, .u, .u, .u, .u, rfl, .nil, b0, Int.le_refl _, by simp, rfl, rfl, rfl, rfl, rfl⟩ fun i x e hd hi => ?_
    obtain ⟨l', t', ps, sj, sw, st, ss, sc, rfl, g, pm, q0, q1, oj, ow, ot, os, oc⟩ := hi
    have il : i < (2 * many).toNat := by
      have := (List.getElem?_eq_some_iff.mp hd).1
      simpa using this
    obtain ⟨e2, l5, t5, ps', sw', st', ss', sc', g1, g2, rfl, g3, g4, g5, g6, g7, g8, g9, g10⟩ := turn_ok l' c t' most way many (1 + w) d ps sj sw st ss sc x g (by omega) (by omega) a0 a1 pm (by omega) oj ow ot os oc
    exact ⟨_, _, g1, g2, l5, t5, ps', _, sw', st', ss', sc', rfl, g3, g4, by omega, by omega, rfl, g7, g8, g9, g10⟩
  obtain ⟨e', he, l', t', ps, sj, sw, st, ss, sc, rfl, g, pm, q0, q1, _⟩ := loop
  have len : ((((List.range (2 * many).toNat).map fun i => D.int (0 + (i : Nat))).length : Nat) : Int) = ((2 * many).toNat : Nat) := by simp
  rw [len] at q1
  have z1 : (-4611686018427387904 : Int) ≤ 2 * many := by omega
  have z2 : 2 * many < 4611686018427387904 := by omega
  have s4 : sFor (tgN 7) (iRange1 (eBin gMul (eC (.int 2)) (eVar 3))) f0__law_tree (treeE l4 c t4 most way many (1 + w) d [] .u .u .u .u .u) = .ok .nx (treeE l' c t' most way many (1 + w) d ps sj sw st ss sc) := by
    refine Eq.trans ?_ he
    simp only [treeE, iRange1, z1, z2, DL.le_size, DL.lt_size, Int.reducePow, Nat.reducePow, Int.reduceLT, or_true, true_or, or_false, false_or, or_self, DL.k_NoneType_int, DL.k_NoneType_str, DL.k_NoneType_tuple, DL.k_NoneType_list, DL.k_NoneType_bool, DL.k_bool_int, DL.k_bool_str, DL.k_bool_tuple, DL.k_bool_list, DL.k_bool_bool, DL.k_int_int, DL.k_int_str, DL.k_int_tuple, DL.k_int_list, DL.k_int_bool, DL.k_str_int, DL.k_str_str, DL.k_str_tuple, DL.k_str_list, DL.k_str_bool, DL.k_list_int, DL.k_list_str, DL.k_list_tuple, DL.k_list_list, DL.k_list_bool, DL.k_tuple_int, DL.k_tuple_str, DL.k_tuple_tuple, DL.k_tuple_list, DL.k_tuple_bool, DL.k_dict_int, DL.k_dict_str, DL.k_dict_tuple, DL.k_dict_list, DL.k_dict_bool, DL.runDef, DL.sSeq, DL.sIf, DL.sE, DL.sSet, DL.sRet, DL.sNx, DL.sPar, DL.assign, DL.free_z, DL.free_s, DL.okB_u, DL.okB_v, DL.okB_o, DL.fresh, DL.toD, DL.peek, DL.peeks, DL.giv, DL.eC, DL.eVar, DL.eUn, DL.eBin, DL.eT, DL.eB, DL.tNotE, DL.tAndE, DL.tOrE, DL.eIf, DL.eNot, DL.eAnd, DL.eOr, DL.eChain, DL.eDs, DL.eTup, DL.eLst, DL.eVs, DL.eBi, DL.eDct, DL.eKs, DL.mergeD, DL.sPut, DL.sFor, DL.sAsg, DL.tgN, DL.tgT, DL.tgs, DL.eMut, DL.gAppend, DL.eM1, DL.eFmt, DL.eJs, DL.eSl, DL.ePart, DL.gIx, DL.keyD, DL.gAdd, DL.gSub, DL.gMul, DL.gMod, DL.gDiv, DL.gPow, DL.gLt, DL.gLe, DL.gGt, DL.gGe, DL.gIs, DL.gIsNot, DL.isNon, DL.gIsi, DL.tyD, DL.gLen, DL.gTuple, DL.sv, DL.truth, DL.eCall, DL.eArgs, DL.callF, DL.slotsOf, DL.countIo, DL.ioOf, DL.borsOf, DL.borOk, DL.back1, DL.putBack, DL.nolR, DL.nolM, DL.nolO, DL.fin, DL.ioM, DL.M.toD, DL.bind_ok, DL.bind_no, Option.bind_some, Option.bind_none, Option.map_some, Option.map_none, List.length_cons, List.length_nil, List.length_append, List.length_map, List.append_nil, List.nil_append, List.cons_append, List.map_cons, List.map_nil, List.replicate, List.getElem?_cons_zero, List.getElem?_cons_succ, List.getElem?_nil, List.set_cons_zero, List.set_cons_succ, Nat.zero_add, Nat.add_zero, Nat.reduceAdd, Nat.reduceSub, if_true, if_false, Bool.not_true, Bool.not_false, Bool.and_self, Bool.and_true, Bool.true_and, Bool.or_true, Bool.true_or, Bool.false_or, Bool.or_false, List.isEmpty_nil, List.isEmpty_cons, if_pos, reduceIte, Bool.false_eq_true, eq_self, and_self, and_true, true_and, ↓reduceIte, Nat.le_refl, reduceCtorEq, Nat.sub_self, List.all_cons, List.all_nil, Bool.false_and, Nat.zero_le, Nat.reduceLeDiff, Nat.reduceEqDiff, Int.cast_ofNat_Int, Int.reduceLE, Int.reduceLT, Int.reduceEq, Int.reduceNe, Int.reduceAdd, Int.reduceSub, Int.reduceMul, Int.reduceNeg, Int.reduceToNat, decide_true, decide_false, ne_eq, not_true_eq_false, not_false_eq_true]
  refine ⟨l', t', 1 + w, d, ps, g, by omega, by omega, by omega, d0, by omega, by omega, by omega, ?_⟩
  refine (run_of (x := .v (.tup [.int (1 + w), .int d, .tup (ps.map pD)])) (e := treeE l' c t' most way many (1 + w) d ps sj sw st ss sc) ?_).trans rfl
  refine (sSeq_nx s1).trans ((sSeq_nx s2).trans ((sSeq_nx s3).trans ((sSeq_nx s4).trans ?_)))
  simp only [treeE, DL.le_size, DL.lt_size, Int.reducePow, Nat.reducePow, Int.reduceLT, or_true, true_or, or_false, false_or, or_self, DL.k_NoneType_int, DL.k_NoneType_str, DL.k_NoneType_tuple, DL.k_NoneType_list, DL.k_NoneType_bool, DL.k_bool_int, DL.k_bool_str, DL.k_bool_tuple, DL.k_bool_list, DL.k_bool_bool, DL.k_int_int, DL.k_int_str, DL.k_int_tuple, DL.k_int_list, DL.k_int_bool, DL.k_str_int, DL.k_str_str, DL.k_str_tuple, DL.k_str_list, DL.k_str_bool, DL.k_list_int, DL.k_list_str, DL.k_list_tuple, DL.k_list_list, DL.k_list_bool, DL.k_tuple_int, DL.k_tuple_str, DL.k_tuple_tuple, DL.k_tuple_list, DL.k_tuple_bool, DL.k_dict_int, DL.k_dict_str, DL.k_dict_tuple, DL.k_dict_list, DL.k_dict_bool, DL.runDef, DL.sSeq, DL.sIf, DL.sE, DL.sSet, DL.sRet, DL.sNx, DL.sPar, DL.assign, DL.free_z, DL.free_s, DL.okB_u, DL.okB_v, DL.okB_o, DL.fresh, DL.toD, DL.peek, DL.peeks, DL.giv, DL.eC, DL.eVar, DL.eUn, DL.eBin, DL.eT, DL.eB, DL.tNotE, DL.tAndE, DL.tOrE, DL.eIf, DL.eNot, DL.eAnd, DL.eOr, DL.eChain, DL.eDs, DL.eTup, DL.eLst, DL.eVs, DL.eBi, DL.eDct, DL.eKs, DL.mergeD, DL.sPut, DL.sFor, DL.sAsg, DL.tgN, DL.tgT, DL.tgs, DL.eMut, DL.gAppend, DL.eM1, DL.eFmt, DL.eJs, DL.eSl, DL.ePart, DL.gIx, DL.keyD, DL.gAdd, DL.gSub, DL.gMul, DL.gMod, DL.gDiv, DL.gPow, DL.gLt, DL.gLe, DL.gGt, DL.gGe, DL.gIs, DL.gIsNot, DL.isNon, DL.gIsi, DL.tyD, DL.gLen, DL.gTuple, DL.sv, DL.truth, DL.eCall, DL.eArgs, DL.callF, DL.slotsOf, DL.countIo, DL.ioOf, DL.borsOf, DL.borOk, DL.back1, DL.putBack, DL.nolR, DL.nolM, DL.nolO, DL.fin, DL.ioM, DL.M.toD, DL.bind_ok, DL.bind_no, Option.bind_some, Option.bind_none, Option.map_some, Option.map_none, List.length_cons, List.length_nil, List.length_append, List.length_map, List.append_nil, List.nil_append, List.cons_append, List.map_cons, List.map_nil, List.replicate, List.getElem?_cons_zero, List.getElem?_cons_succ, List.getElem?_nil, List.set_cons_zero, List.set_cons_succ, Nat.zero_add, Nat.add_zero, Nat.reduceAdd, Nat.reduceSub, if_true, if_false, Bool.not_true, Bool.not_false, Bool.and_self, Bool.and_true, Bool.true_and, Bool.or_true, Bool.true_or, Bool.false_or, Bool.or_false, List.isEmpty_nil, List.isEmpty_cons, if_pos, reduceIte, Bool.false_eq_true, eq_self, and_self, and_true, true_and, ↓reduceIte, Nat.le_refl, reduceCtorEq, Nat.sub_self, List.all_cons, List.all_nil, Bool.false_and, Nat.zero_le, Nat.reduceLeDiff, Nat.reduceEqDiff, Int.cast_ofNat_Int, Int.reduceLE, Int.reduceLT, Int.reduceEq, Int.reduceNe, Int.reduceAdd, Int.reduceSub, Int.reduceMul, Int.reduceNeg, Int.reduceToNat, decide_true, decide_false, ne_eq, not_true_eq_false, not_false_eq_true]
end K05

namespace K05
open DL PySem L2
theorem int_ne (a b : Int) : gNe (.int a) (.int b) = some (.v (.bl (!decide (a = b)))) := rfl
theorem str_eq {a b : Str} (ha : PyData.strOk a = true) (hb : PyData.strOk b = true) : gEq (.str a) (.str b) = some (.v (.bl (decide (a = b)))) := rfl
theorem str_ne {a b : Str} (ha : PyData.strOk a = true) (hb : PyData.strOk b = true) : gNe (.str a) (.str b) = some (.v (.bl (!decide (a = b)))) := rfl
theorem okN.ok {x : Str} (h : okN x) : PyData.strOk x = true := by
  unfold PyData.strOk
  rw [← Array.all_toList]
  exact List.all_eq_true.mpr fun c hc => decide_eq_true (by have := h.2.2 c hc; omega)
theorem none_ok : PyData.strOk (Str.ofString "") = true := by decide +kernel
theorem fits_ok {p : Prs} {ns : List Str} (hn : okN p.nm) (hf : p.nm ∉ ns) (t0 : 1 ≤ p.tk) (t1 : p.tk ≤ 60) (ha : p.ab = "" ∨ p.ab ∈ ns) (hab : PyData.strOk p.ab = true) : F_fits_behind [.v (pD p), .v (.lst (ns.map D.str))] = .ok (.v (.bl true)) none := by
  have i1 := in_strs p.nm ns
  have i2 := in_strs p.ab ns
  rw [decide_eq_false hf] at i1
  have nk := name_ok hn
  have se := str_eq hab none_ok
  have tk := talk_int p.tk
  by_cases h : p.ab = ""
  · simp only [F_fits_behind, b_fits_behind, pD, int_ne, nk, gIn, i1, tk, t0, t1, se, decide_eq_true h, DL.le_size, DL.lt_size, Int.reducePow, Nat.reducePow, Int.reduceLT, or_true, true_or, or_false, false_or, or_self, DL.k_NoneType_int, DL.k_NoneType_str, DL.k_NoneType_tuple, DL.k_NoneType_list, DL.k_NoneType_bool, DL.k_bool_int, DL.k_bool_str, DL.k_bool_tuple, DL.k_bool_list, DL.k_bool_bool, DL.k_int_int, DL.k_int_str, DL.k_int_tuple, DL.k_int_list, DL.k_int_bool, DL.k_str_int, DL.k_str_str, DL.k_str_tuple, DL.k_str_list, DL.k_str_bool, DL.k_list_int, DL.k_list_str, DL.k_list_tuple, DL.k_list_list, DL.k_list_bool, DL.k_tuple_int, DL.k_tuple_str, DL.k_tuple_tuple, DL.k_tuple_list, DL.k_tuple_bool, DL.k_dict_int, DL.k_dict_str, DL.k_dict_tuple, DL.k_dict_list, DL.k_dict_bool, DL.runDef, DL.sSeq, DL.sIf, DL.sE, DL.sSet, DL.sRet, DL.sNx, DL.sPar, DL.assign, DL.free_z, DL.free_s, DL.okB_u, DL.okB_v, DL.okB_o, DL.fresh, DL.toD, DL.peek, DL.peeks, DL.giv, DL.eC, DL.eVar, DL.eUn, DL.eBin, DL.eT, DL.eB, DL.tNotE, DL.tAndE, DL.tOrE, DL.eIf, DL.eNot, DL.eAnd, DL.eOr, DL.eChain, DL.eDs, DL.eTup, DL.eLst, DL.eVs, DL.eBi, DL.eDct, DL.eKs, DL.mergeD, DL.sPut, DL.sFor, DL.sAsg, DL.tgN, DL.tgT, DL.tgs, DL.eMut, DL.gAppend, DL.eM1, DL.eFmt, DL.eJs, DL.eSl, DL.ePart, DL.gIx, DL.keyD, DL.gAdd, DL.gSub, DL.gMul, DL.gMod, DL.gDiv, DL.gPow, DL.gLt, DL.gLe, DL.gGt, DL.gGe, DL.gIs, DL.gIsNot, DL.isNon, DL.gIsi, DL.tyD, DL.gLen, DL.gTuple, DL.sv, DL.truth, DL.eCall, DL.eArgs, DL.callF, DL.slotsOf, DL.countIo, DL.ioOf, DL.borsOf, DL.borOk, DL.back1, DL.putBack, DL.nolR, DL.nolM, DL.nolO, DL.fin, DL.ioM, DL.M.toD, DL.bind_ok, DL.bind_no, Option.bind_some, Option.bind_none, Option.map_some, Option.map_none, List.length_cons, List.length_nil, List.length_append, List.length_map, List.append_nil, List.nil_append, List.cons_append, List.map_cons, List.map_nil, List.replicate, List.getElem?_cons_zero, List.getElem?_cons_succ, List.getElem?_nil, List.set_cons_zero, List.set_cons_succ, Nat.zero_add, Nat.add_zero, Nat.reduceAdd, Nat.reduceSub, if_true, if_false, Bool.not_true, Bool.not_false, Bool.and_self, Bool.and_true, Bool.true_and, Bool.or_true, Bool.true_or, Bool.false_or, Bool.or_false, List.isEmpty_nil, List.isEmpty_cons, if_pos, reduceIte, Bool.false_eq_true, eq_self, and_self, and_true, true_and, ↓reduceIte, Nat.le_refl, reduceCtorEq, Nat.sub_self, List.all_cons, List.all_nil, Bool.false_and, Nat.zero_le, Nat.reduceLeDiff, Nat.reduceEqDiff, Int.cast_ofNat_Int, Int.reduceLE, Int.reduceLT, Int.reduceEq, Int.reduceNe, Int.reduceAdd, Int.reduceSub, Int.reduceMul, Int.reduceNeg, Int.reduceToNat, decide_true, decide_false, ne_eq, not_true_eq_false, not_false_eq_true]
  · have h2 := ha.resolve_left h
    rw [decide_eq_true h2] at i2
    simp only [F_fits_behind, b_fits_behind, pD, int_ne, nk, gIn, i1, i2, tk, t0, t1, se, decide_eq_false h, DL.le_size, DL.lt_size, Int.reducePow, Nat.reducePow, Int.reduceLT, or_true, true_or, or_false, false_or, or_self, DL.k_NoneType_int, DL.k_NoneType_str, DL.k_NoneType_tuple, DL.k_NoneType_list, DL.k_NoneType_bool, DL.k_bool_int, DL.k_bool_str, DL.k_bool_tuple, DL.k_bool_list, DL.k_bool_bool, DL.k_int_int, DL.k_int_str, DL.k_int_tuple, DL.k_int_list, DL.k_int_bool, DL.k_str_int, DL.k_str_str, DL.k_str_tuple, DL.k_str_list, DL.k_str_bool, DL.k_list_int, DL.k_list_str, DL.k_list_tuple, DL.k_list_list, DL.k_list_bool, DL.k_tuple_int, DL.k_tuple_str, DL.k_tuple_tuple, DL.k_tuple_list, DL.k_tuple_bool, DL.k_dict_int, DL.k_dict_str, DL.k_dict_tuple, DL.k_dict_list, DL.k_dict_bool, DL.runDef, DL.sSeq, DL.sIf, DL.sE, DL.sSet, DL.sRet, DL.sNx, DL.sPar, DL.assign, DL.free_z, DL.free_s, DL.okB_u, DL.okB_v, DL.okB_o, DL.fresh, DL.toD, DL.peek, DL.peeks, DL.giv, DL.eC, DL.eVar, DL.eUn, DL.eBin, DL.eT, DL.eB, DL.tNotE, DL.tAndE, DL.tOrE, DL.eIf, DL.eNot, DL.eAnd, DL.eOr, DL.eChain, DL.eDs, DL.eTup, DL.eLst, DL.eVs, DL.eBi, DL.eDct, DL.eKs, DL.mergeD, DL.sPut, DL.sFor, DL.sAsg, DL.tgN, DL.tgT, DL.tgs, DL.eMut, DL.gAppend, DL.eM1, DL.eFmt, DL.eJs, DL.eSl, DL.ePart, DL.gIx, DL.keyD, DL.gAdd, DL.gSub, DL.gMul, DL.gMod, DL.gDiv, DL.gPow, DL.gLt, DL.gLe, DL.gGt, DL.gGe, DL.gIs, DL.gIsNot, DL.isNon, DL.gIsi, DL.tyD, DL.gLen, DL.gTuple, DL.sv, DL.truth, DL.eCall, DL.eArgs, DL.callF, DL.slotsOf, DL.countIo, DL.ioOf, DL.borsOf, DL.borOk, DL.back1, DL.putBack, DL.nolR, DL.nolM, DL.nolO, DL.fin, DL.ioM, DL.M.toD, DL.bind_ok, DL.bind_no, Option.bind_some, Option.bind_none, Option.map_some, Option.map_none, List.length_cons, List.length_nil, List.length_append, List.length_map, List.append_nil, List.nil_append, List.cons_append, List.map_cons, List.map_nil, List.replicate, List.getElem?_cons_zero, List.getElem?_cons_succ, List.getElem?_nil, List.set_cons_zero, List.set_cons_succ, Nat.zero_add, Nat.add_zero, Nat.reduceAdd, Nat.reduceSub, if_true, if_false, Bool.not_true, Bool.not_false, Bool.and_self, Bool.and_true, Bool.true_and, Bool.or_true, Bool.true_or, Bool.false_or, Bool.or_false, List.isEmpty_nil, List.isEmpty_cons, if_pos, reduceIte, Bool.false_eq_true, eq_self, and_self, and_true, true_and, ↓reduceIte, Nat.le_refl, reduceCtorEq, Nat.sub_self, List.all_cons, List.all_nil, Bool.false_and, Nat.zero_le, Nat.reduceLeDiff, Nat.reduceEqDiff, Int.cast_ofNat_Int, Int.reduceLE, Int.reduceLT, Int.reduceEq, Int.reduceNe, Int.reduceAdd, Int.reduceSub, Int.reduceMul, Int.reduceNeg, Int.reduceToNat, decide_true, decide_false, ne_eq, not_true_eq_false, not_false_eq_true]
/-- every person by those ahead -/
def Goods (ps : List Prs) : Prop := ∀ (i : Nat) (p : Prs), ps[i]? = some p → okN p.nm ∧ p.nm ∉ (ps.take i).map Prs.nm ∧ 1 ≤ p.tk ∧ p.tk ≤ 60 ∧ (p.ab = Str.ofString "" ∨ p.ab ∈ (ps.take i).map Prs.nm) ∧ (p.ab = Str.ofString "" ∨ okN p.ab)
theorem GoodP.names {ps : List Prs} (g : GoodP ps) : ∀ x ∈ ps.map Prs.nm, okN x := by
  induction g with
  | nil => intro x h; cases h
  | @snoc ps p g n f t0 t1 a ih =>
    intro x h
    rw [List.map_append] at h
    rcases List.mem_append.mp h with h | h
    · exact ih x h
    · rw [List.mem_singleton.mp h]; exact n
theorem GoodP.all {ps : List Prs} (g : GoodP ps) : Goods ps := by
  induction g with
  | nil => intro i p h; simp at h
  | @snoc ps p g n f t0 t1 a ih =>
    intro i q h
    by_cases l : i < ps.length
    · rw [List.getElem?_append_left l] at h
      rw [List.take_append_of_le_length (Nat.le_of_lt l)]
      exact ih i q h
    · rw [List.getElem?_append_right (by omega)] at h
      by_cases z : i - ps.length = 0
      · rw [z] at h
        cases h
        have : i = ps.length := by omega
        subst this
        rw [List.take_left]
        exact ⟨n, f, t0, t1, a, a.imp_right (g.names _)⟩
      · rw [show i - ps.length = (i - ps.length - 1) + 1 by omega] at h
        simp at h
theorem ab_ok {x : Str} (h : x = Str.ofString "" ∨ okN x) : PyData.strOk x = true := by
  rcases h with h | h
  · rw [h]; exact none_ok
  · exact h.ok
theorem misfit_ok {ps : List Prs} (g : Goods ps) (l : ps.length ≤ 16) : F_first_misfit [.v (.tup (ps.map pD))] = .ok (.v .non) none := by
  have loop : ∃ e', forL (tgT [tgN 2, tgN 3]) f0_first_misfit (enumD 0 (ps.map pD)) [.v (.tup (ps.map pD)), .o false false (.l []), .u, .u] = .ok .nx e' ∧ ∃ s2 s3, e' = [.v (.tup (ps.map pD)), .o false false (.l (((ps.take (enumD 0 (ps.map pD)).length).map (·.nm)).map D.str)), s2, s3] ∧ okB s2 = true ∧ okB s3 = true := by
    refine forL_run (fun i e => ∃ s2 s3, e = [.v (.tup (ps.map pD)), .o false false (.l (((ps.take i).map (·.nm)).map D.str)), s2, s3] ∧ okB s2 = true ∧ okB s3 = true) ⟨.u, .u, by simp, rfl, rfl⟩ fun i x e hd hi => ?_
    obtain ⟨s2, s3, rfl, o2, o3⟩ := hi
    have il := (List.getElem?_eq_some_iff.mp hd).1
    rw [enumD_len, List.length_map] at il
    have hp : (ps.map pD)[i]? = some (pD ps[i]) := by rw [List.getElem?_map, List.getElem?_eq_getElem il]; rfl
    rw [enumD_get 0 _ i _ hp] at hd
    cases hd
    obtain ⟨n, f, t0, t1, a, b⟩ := g i ps[i] (List.getElem?_eq_getElem il)
    have hf := fits_ok n f t0 t1 a (ab_ok b)
    have z : (ps.take i).length < sizeLine := by rw [List.length_take]; exact Nat.lt_of_le_of_lt (by omega : min i ps.length ≤ 64) (by decide)
    have tk : ps.take (i + 1) = ps.take i ++ [ps[i]] := by rw [List.take_add_one, List.getElem?_eq_getElem il]; rfl
    refine ⟨[.v (.tup (ps.map pD)), .o false false (.l (((ps.take i).map (·.nm)).map D.str)), .v (.int (0 + (i : Nat))), .v (pD ps[i])], [.v (.tup (ps.map pD)), .o false false (.l (((ps.take (i + 1)).map (·.nm)).map D.str)), .v (.int (0 + (i : Nat))), .v (pD ps[i])], ?_, ?_, ⟨_, _, rfl, rfl, rfl⟩⟩
    · simp only [o2, o3, DL.le_size, DL.lt_size, Int.reducePow, Nat.reducePow, Int.reduceLT, or_true, true_or, or_false, false_or, or_self, DL.k_NoneType_int, DL.k_NoneType_str, DL.k_NoneType_tuple, DL.k_NoneType_list, DL.k_NoneType_bool, DL.k_bool_int, DL.k_bool_str, DL.k_bool_tuple, DL.k_bool_list, DL.k_bool_bool, DL.k_int_int, DL.k_int_str, DL.k_int_tuple, DL.k_int_list, DL.k_int_bool, DL.k_str_int, DL.k_str_str, DL.k_str_tuple, DL.k_str_list, DL.k_str_bool, DL.k_list_int, DL.k_list_str, DL.k_list_tuple, DL.k_list_list, DL.k_list_bool, DL.k_tuple_int, DL.k_tuple_str, DL.k_tuple_tuple, DL.k_tuple_list, DL.k_tuple_bool, DL.k_dict_int, DL.k_dict_str, DL.k_dict_tuple, DL.k_dict_list, DL.k_dict_bool, DL.runDef, DL.sSeq, DL.sIf, DL.sE, DL.sSet, DL.sRet, DL.sNx, DL.sPar, DL.assign, DL.free_z, DL.free_s, DL.okB_u, DL.okB_v, DL.okB_o, DL.fresh, DL.toD, DL.peek, DL.peeks, DL.giv, DL.eC, DL.eVar, DL.eUn, DL.eBin, DL.eT, DL.eB, DL.tNotE, DL.tAndE, DL.tOrE, DL.eIf, DL.eNot, DL.eAnd, DL.eOr, DL.eChain, DL.eDs, DL.eTup, DL.eLst, DL.eVs, DL.eBi, DL.eDct, DL.eKs, DL.mergeD, DL.sPut, DL.sFor, DL.sAsg, DL.tgN, DL.tgT, DL.tgs, DL.eMut, DL.gAppend, DL.eM1, DL.eFmt, DL.eJs, DL.eSl, DL.ePart, DL.gIx, DL.keyD, DL.gAdd, DL.gSub, DL.gMul, DL.gMod, DL.gDiv, DL.gPow, DL.gLt, DL.gLe, DL.gGt, DL.gGe, DL.gIs, DL.gIsNot, DL.isNon, DL.gIsi, DL.tyD, DL.gLen, DL.gTuple, DL.sv, DL.truth, DL.eCall, DL.eArgs, DL.callF, DL.slotsOf, DL.countIo, DL.ioOf, DL.borsOf, DL.borOk, DL.back1, DL.putBack, DL.nolR, DL.nolM, DL.nolO, DL.fin, DL.ioM, DL.M.toD, DL.bind_ok, DL.bind_no, Option.bind_some, Option.bind_none, Option.map_some, Option.map_none, List.length_cons, List.length_nil, List.length_append, List.length_map, List.append_nil, List.nil_append, List.cons_append, List.map_cons, List.map_nil, List.replicate, List.getElem?_cons_zero, List.getElem?_cons_succ, List.getElem?_nil, List.set_cons_zero, List.set_cons_succ, Nat.zero_add, Nat.add_zero, Nat.reduceAdd, Nat.reduceSub, if_true, if_false, Bool.not_true, Bool.not_false, Bool.and_self, Bool.and_true, Bool.true_and, Bool.or_true, Bool.true_or, Bool.false_or, Bool.or_false, List.isEmpty_nil, List.isEmpty_cons, if_pos, reduceIte, Bool.false_eq_true, eq_self, and_self, and_true, true_and, ↓reduceIte, Nat.le_refl, reduceCtorEq, Nat.sub_self, List.all_cons, List.all_nil, Bool.false_and, Nat.zero_le, Nat.reduceLeDiff, Nat.reduceEqDiff, Int.cast_ofNat_Int, Int.reduceLE, Int.reduceLT, Int.reduceEq, Int.reduceNe, Int.reduceAdd, Int.reduceSub, Int.reduceMul, Int.reduceNeg, Int.reduceToNat, decide_true, decide_false, ne_eq, not_true_eq_false, not_false_eq_true]
    · have at0 : L2.atI [D.str ps[i].nm, .str ps[i].ab, .int ps[i].tk] 0 = some (.str ps[i].nm) := rfl
      rw [tk]
      have hf' : F_fits_behind [.v (pD ps[i]), .v (.lst (((ps.take i).map (·.nm)).map D.str))] = .ok (.v (.bl true)) none := hf
      have z' : min i ps.length < sizeLine := by rw [List.length_take] at z; exact z
      have ix : gIx (pD ps[i]) (.int 0) = some (.v (.str ps[i].nm)) := rfl
      have q1 : sIf (tNotE (eT (eCall F_fits_behind 2 none [] [(.v, eVar 3), (.bor, eVar 1)]))) (sRet (eVar 2)) sNx [.v (.tup (ps.map pD)), .o false false (.l (((ps.take i).map (·.nm)).map D.str)), .v (.int (0 + (i : Nat))), .v (pD ps[i])] = .ok .nx [.v (.tup (ps.map pD)), .o false false (.l (((ps.take i).map (·.nm)).map D.str)), .v (.int (0 + (i : Nat))), .v (pD ps[i])] := by
        have nl : nol (.bl true) = true := rfl
        simp only [hf', nl, DL.le_size, DL.lt_size, Int.reducePow, Nat.reducePow, Int.reduceLT, or_true, true_or, or_false, false_or, or_self, DL.k_NoneType_int, DL.k_NoneType_str, DL.k_NoneType_tuple, DL.k_NoneType_list, DL.k_NoneType_bool, DL.k_bool_int, DL.k_bool_str, DL.k_bool_tuple, DL.k_bool_list, DL.k_bool_bool, DL.k_int_int, DL.k_int_str, DL.k_int_tuple, DL.k_int_list, DL.k_int_bool, DL.k_str_int, DL.k_str_str, DL.k_str_tuple, DL.k_str_list, DL.k_str_bool, DL.k_list_int, DL.k_list_str, DL.k_list_tuple, DL.k_list_list, DL.k_list_bool, DL.k_tuple_int, DL.k_tuple_str, DL.k_tuple_tuple, DL.k_tuple_list, DL.k_tuple_bool, DL.k_dict_int, DL.k_dict_str, DL.k_dict_tuple, DL.k_dict_list, DL.k_dict_bool, DL.runDef, DL.sSeq, DL.sIf, DL.sE, DL.sSet, DL.sRet, DL.sNx, DL.sPar, DL.assign, DL.free_z, DL.free_s, DL.okB_u, DL.okB_v, DL.okB_o, DL.fresh, DL.toD, DL.peek, DL.peeks, DL.giv, DL.eC, DL.eVar, DL.eUn, DL.eBin, DL.eT, DL.eB, DL.tNotE, DL.tAndE, DL.tOrE, DL.eIf, DL.eNot, DL.eAnd, DL.eOr, DL.eChain, DL.eDs, DL.eTup, DL.eLst, DL.eVs, DL.eBi, DL.eDct, DL.eKs, DL.mergeD, DL.sPut, DL.sFor, DL.sAsg, DL.tgN, DL.tgT, DL.tgs, DL.eMut, DL.gAppend, DL.eM1, DL.eFmt, DL.eJs, DL.eSl, DL.ePart, DL.gIx, DL.keyD, DL.gAdd, DL.gSub, DL.gMul, DL.gMod, DL.gDiv, DL.gPow, DL.gLt, DL.gLe, DL.gGt, DL.gGe, DL.gIs, DL.gIsNot, DL.isNon, DL.gIsi, DL.tyD, DL.gLen, DL.gTuple, DL.sv, DL.truth, DL.eCall, DL.eArgs, DL.callF, DL.slotsOf, DL.countIo, DL.ioOf, DL.borsOf, DL.borOk, DL.back1, DL.putBack, DL.nolR, DL.nolM, DL.nolO, DL.fin, DL.ioM, DL.M.toD, DL.bind_ok, DL.bind_no, Option.bind_some, Option.bind_none, Option.map_some, Option.map_none, List.length_cons, List.length_nil, List.length_append, List.length_map, List.append_nil, List.nil_append, List.cons_append, List.map_cons, List.map_nil, List.replicate, List.getElem?_cons_zero, List.getElem?_cons_succ, List.getElem?_nil, List.set_cons_zero, List.set_cons_succ, Nat.zero_add, Nat.add_zero, Nat.reduceAdd, Nat.reduceSub, if_true, if_false, Bool.not_true, Bool.not_false, Bool.and_self, Bool.and_true, Bool.true_and, Bool.or_true, Bool.true_or, Bool.false_or, Bool.or_false, List.isEmpty_nil, List.isEmpty_cons, if_pos, reduceIte, Bool.false_eq_true, eq_self, and_self, and_true, true_and, ↓reduceIte, Nat.le_refl, reduceCtorEq, Nat.sub_self, List.all_cons, List.all_nil, Bool.false_and, Nat.zero_le, Nat.reduceLeDiff, Nat.reduceEqDiff, Int.cast_ofNat_Int, Int.reduceLE, Int.reduceLT, Int.reduceEq, Int.reduceNe, Int.reduceAdd, Int.reduceSub, Int.reduceMul, Int.reduceNeg, Int.reduceToNat, decide_true, decide_false, ne_eq, not_true_eq_false, not_false_eq_true]
      refine (sSeq_nx q1).trans ?_
      simp only [pD, at0, z', List.map_append, List.length_take, DL.le_size, DL.lt_size, Int.reducePow, Nat.reducePow, Int.reduceLT, or_true, true_or, or_false, false_or, or_self, DL.k_NoneType_int, DL.k_NoneType_str, DL.k_NoneType_tuple, DL.k_NoneType_list, DL.k_NoneType_bool, DL.k_bool_int, DL.k_bool_str, DL.k_bool_tuple, DL.k_bool_list, DL.k_bool_bool, DL.k_int_int, DL.k_int_str, DL.k_int_tuple, DL.k_int_list, DL.k_int_bool, DL.k_str_int, DL.k_str_str, DL.k_str_tuple, DL.k_str_list, DL.k_str_bool, DL.k_list_int, DL.k_list_str, DL.k_list_tuple, DL.k_list_list, DL.k_list_bool, DL.k_tuple_int, DL.k_tuple_str, DL.k_tuple_tuple, DL.k_tuple_list, DL.k_tuple_bool, DL.k_dict_int, DL.k_dict_str, DL.k_dict_tuple, DL.k_dict_list, DL.k_dict_bool, DL.runDef, DL.sSeq, DL.sIf, DL.sE, DL.sSet, DL.sRet, DL.sNx, DL.sPar, DL.assign, DL.free_z, DL.free_s, DL.okB_u, DL.okB_v, DL.okB_o, DL.fresh, DL.toD, DL.peek, DL.peeks, DL.giv, DL.eC, DL.eVar, DL.eUn, DL.eBin, DL.eT, DL.eB, DL.tNotE, DL.tAndE, DL.tOrE, DL.eIf, DL.eNot, DL.eAnd, DL.eOr, DL.eChain, DL.eDs, DL.eTup, DL.eLst, DL.eVs, DL.eBi, DL.eDct, DL.eKs, DL.mergeD, DL.sPut, DL.sFor, DL.sAsg, DL.tgN, DL.tgT, DL.tgs, DL.eMut, DL.gAppend, DL.eM1, DL.eFmt, DL.eJs, DL.eSl, DL.ePart, DL.gIx, DL.keyD, DL.gAdd, DL.gSub, DL.gMul, DL.gMod, DL.gDiv, DL.gPow, DL.gLt, DL.gLe, DL.gGt, DL.gGe, DL.gIs, DL.gIsNot, DL.isNon, DL.gIsi, DL.tyD, DL.gLen, DL.gTuple, DL.sv, DL.truth, DL.eCall, DL.eArgs, DL.callF, DL.slotsOf, DL.countIo, DL.ioOf, DL.borsOf, DL.borOk, DL.back1, DL.putBack, DL.nolR, DL.nolM, DL.nolO, DL.fin, DL.ioM, DL.M.toD, DL.bind_ok, DL.bind_no, Option.bind_some, Option.bind_none, Option.map_some, Option.map_none, List.length_cons, List.length_nil, List.length_append, List.length_map, List.append_nil, List.nil_append, List.cons_append, List.map_cons, List.map_nil, List.replicate, List.getElem?_cons_zero, List.getElem?_cons_succ, List.getElem?_nil, List.set_cons_zero, List.set_cons_succ, Nat.zero_add, Nat.add_zero, Nat.reduceAdd, Nat.reduceSub, if_true, if_false, Bool.not_true, Bool.not_false, Bool.and_self, Bool.and_true, Bool.true_and, Bool.or_true, Bool.true_or, Bool.false_or, Bool.or_false, List.isEmpty_nil, List.isEmpty_cons, if_pos, reduceIte, Bool.false_eq_true, eq_self, and_self, and_true, true_and, ↓reduceIte, Nat.le_refl, reduceCtorEq, Nat.sub_self, List.all_cons, List.all_nil, Bool.false_and, Nat.zero_le, Nat.reduceLeDiff, Nat.reduceEqDiff, Int.cast_ofNat_Int, Int.reduceLE, Int.reduceLT, Int.reduceEq, Int.reduceNe, Int.reduceAdd, Int.reduceSub, Int.reduceMul, Int.reduceNeg, Int.reduceToNat, decide_true, decide_false, ne_eq, not_true_eq_false, not_false_eq_true]
  obtain ⟨e', he, s2, s3, rfl, o2, o3⟩ := loop
  have s1 : sSet 1 (eLst []) [.v (.tup (ps.map pD)), .u, .u, .u] = .ok .nx [.v (.tup (ps.map pD)), .o false false (.l []), .u, .u] := by
    simp only [eC, DL.le_size, DL.lt_size, Int.reducePow, Nat.reducePow, Int.reduceLT, or_true, true_or, or_false, false_or, or_self, DL.k_NoneType_int, DL.k_NoneType_str, DL.k_NoneType_tuple, DL.k_NoneType_list, DL.k_NoneType_bool, DL.k_bool_int, DL.k_bool_str, DL.k_bool_tuple, DL.k_bool_list, DL.k_bool_bool, DL.k_int_int, DL.k_int_str, DL.k_int_tuple, DL.k_int_list, DL.k_int_bool, DL.k_str_int, DL.k_str_str, DL.k_str_tuple, DL.k_str_list, DL.k_str_bool, DL.k_list_int, DL.k_list_str, DL.k_list_tuple, DL.k_list_list, DL.k_list_bool, DL.k_tuple_int, DL.k_tuple_str, DL.k_tuple_tuple, DL.k_tuple_list, DL.k_tuple_bool, DL.k_dict_int, DL.k_dict_str, DL.k_dict_tuple, DL.k_dict_list, DL.k_dict_bool, DL.runDef, DL.sSeq, DL.sIf, DL.sE, DL.sSet, DL.sRet, DL.sNx, DL.sPar, DL.assign, DL.free_z, DL.free_s, DL.okB_u, DL.okB_v, DL.okB_o, DL.fresh, DL.toD, DL.peek, DL.peeks, DL.giv, DL.eC, DL.eVar, DL.eUn, DL.eBin, DL.eT, DL.eB, DL.tNotE, DL.tAndE, DL.tOrE, DL.eIf, DL.eNot, DL.eAnd, DL.eOr, DL.eChain, DL.eDs, DL.eTup, DL.eLst, DL.eVs, DL.eBi, DL.eDct, DL.eKs, DL.mergeD, DL.sPut, DL.sFor, DL.sAsg, DL.tgN, DL.tgT, DL.tgs, DL.eMut, DL.gAppend, DL.eM1, DL.eFmt, DL.eJs, DL.eSl, DL.ePart, DL.gIx, DL.keyD, DL.gAdd, DL.gSub, DL.gMul, DL.gMod, DL.gDiv, DL.gPow, DL.gLt, DL.gLe, DL.gGt, DL.gGe, DL.gIs, DL.gIsNot, DL.isNon, DL.gIsi, DL.tyD, DL.gLen, DL.gTuple, DL.sv, DL.truth, DL.eCall, DL.eArgs, DL.callF, DL.slotsOf, DL.countIo, DL.ioOf, DL.borsOf, DL.borOk, DL.back1, DL.putBack, DL.nolR, DL.nolM, DL.nolO, DL.fin, DL.ioM, DL.M.toD, DL.bind_ok, DL.bind_no, Option.bind_some, Option.bind_none, Option.map_some, Option.map_none, List.length_cons, List.length_nil, List.length_append, List.length_map, List.append_nil, List.nil_append, List.cons_append, List.map_cons, List.map_nil, List.replicate, List.getElem?_cons_zero, List.getElem?_cons_succ, List.getElem?_nil, List.set_cons_zero, List.set_cons_succ, Nat.zero_add, Nat.add_zero, Nat.reduceAdd, Nat.reduceSub, if_true, if_false, Bool.not_true, Bool.not_false, Bool.and_self, Bool.and_true, Bool.true_and, Bool.or_true, Bool.true_or, Bool.false_or, Bool.or_false, List.isEmpty_nil, List.isEmpty_cons, if_pos, reduceIte, Bool.false_eq_true, eq_self, and_self, and_true, true_and, ↓reduceIte, Nat.le_refl, reduceCtorEq, Nat.sub_self, List.all_cons, List.all_nil, Bool.false_and, Nat.zero_le, Nat.reduceLeDiff, Nat.reduceEqDiff, Int.cast_ofNat_Int, Int.reduceLE, Int.reduceLT, Int.reduceEq, Int.reduceNe, Int.reduceAdd, Int.reduceSub, Int.reduceMul, Int.reduceNeg, Int.reduceToNat, decide_true, decide_false, ne_eq, not_true_eq_false, not_false_eq_true]
  have s2' : sFor (tgT [tgN 2, tgN 3]) (iEnum 0 [eVar 0]) f0_first_misfit [.v (.tup (ps.map pD)), .o false false (.l []), .u, .u] = .ok .nx [.v (.tup (ps.map pD)), .o false false (.l (((ps.take (enumD 0 (ps.map pD)).length).map (·.nm)).map D.str)), s2, s3] := by
    refine Eq.trans ?_ he
    simp only [DL.iEnum, DL.le_size, DL.lt_size, Int.reducePow, Nat.reducePow, Int.reduceLT, or_true, true_or, or_false, false_or, or_self, DL.k_NoneType_int, DL.k_NoneType_str, DL.k_NoneType_tuple, DL.k_NoneType_list, DL.k_NoneType_bool, DL.k_bool_int, DL.k_bool_str, DL.k_bool_tuple, DL.k_bool_list, DL.k_bool_bool, DL.k_int_int, DL.k_int_str, DL.k_int_tuple, DL.k_int_list, DL.k_int_bool, DL.k_str_int, DL.k_str_str, DL.k_str_tuple, DL.k_str_list, DL.k_str_bool, DL.k_list_int, DL.k_list_str, DL.k_list_tuple, DL.k_list_list, DL.k_list_bool, DL.k_tuple_int, DL.k_tuple_str, DL.k_tuple_tuple, DL.k_tuple_list, DL.k_tuple_bool, DL.k_dict_int, DL.k_dict_str, DL.k_dict_tuple, DL.k_dict_list, DL.k_dict_bool, DL.runDef, DL.sSeq, DL.sIf, DL.sE, DL.sSet, DL.sRet, DL.sNx, DL.sPar, DL.assign, DL.free_z, DL.free_s, DL.okB_u, DL.okB_v, DL.okB_o, DL.fresh, DL.toD, DL.peek, DL.peeks, DL.giv, DL.eC, DL.eVar, DL.eUn, DL.eBin, DL.eT, DL.eB, DL.tNotE, DL.tAndE, DL.tOrE, DL.eIf, DL.eNot, DL.eAnd, DL.eOr, DL.eChain, DL.eDs, DL.eTup, DL.eLst, DL.eVs, DL.eBi, DL.eDct, DL.eKs, DL.mergeD, DL.sPut, DL.sFor, DL.sAsg, DL.tgN, DL.tgT, DL.tgs, DL.eMut, DL.gAppend, DL.eM1, DL.eFmt, DL.eJs, DL.eSl, DL.ePart, DL.gIx, DL.keyD, DL.gAdd, DL.gSub, DL.gMul, DL.gMod, DL.gDiv, DL.gPow, DL.gLt, DL.gLe, DL.gGt, DL.gGe, DL.gIs, DL.gIsNot, DL.isNon, DL.gIsi, DL.tyD, DL.gLen, DL.gTuple, DL.sv, DL.truth, DL.eCall, DL.eArgs, DL.callF, DL.slotsOf, DL.countIo, DL.ioOf, DL.borsOf, DL.borOk, DL.back1, DL.putBack, DL.nolR, DL.nolM, DL.nolO, DL.fin, DL.ioM, DL.M.toD, DL.bind_ok, DL.bind_no, Option.bind_some, Option.bind_none, Option.map_some, Option.map_none, List.length_cons, List.length_nil, List.length_append, List.length_map, List.append_nil, List.nil_append, List.cons_append, List.map_cons, List.map_nil, List.replicate, List.getElem?_cons_zero, List.getElem?_cons_succ, List.getElem?_nil, List.set_cons_zero, List.set_cons_succ, Nat.zero_add, Nat.add_zero, Nat.reduceAdd, Nat.reduceSub, if_true, if_false, Bool.not_true, Bool.not_false, Bool.and_self, Bool.and_true, Bool.true_and, Bool.or_true, Bool.true_or, Bool.false_or, Bool.or_false, List.isEmpty_nil, List.isEmpty_cons, if_pos, reduceIte, Bool.false_eq_true, eq_self, and_self, and_true, true_and, ↓reduceIte, Nat.le_refl, reduceCtorEq, Nat.sub_self, List.all_cons, List.all_nil, Bool.false_and, Nat.zero_le, Nat.reduceLeDiff, Nat.reduceEqDiff, Int.cast_ofNat_Int, Int.reduceLE, Int.reduceLT, Int.reduceEq, Int.reduceNe, Int.reduceAdd, Int.reduceSub, Int.reduceMul, Int.reduceNeg, Int.reduceToNat, decide_true, decide_false, ne_eq, not_true_eq_false, not_false_eq_true]
  refine (run_of (x := .v .non) (e := [.v (.tup (ps.map pD)), .o false false (.l (((ps.take (enumD 0 (ps.map pD)).length).map (·.nm)).map D.str)), s2, s3]) ?_).trans rfl
  refine (sSeq_nx s1).trans ((sSeq_nx s2').trans ?_)
  simp only [eC, DL.le_size, DL.lt_size, Int.reducePow, Nat.reducePow, Int.reduceLT, or_true, true_or, or_false, false_or, or_self, DL.k_NoneType_int, DL.k_NoneType_str, DL.k_NoneType_tuple, DL.k_NoneType_list, DL.k_NoneType_bool, DL.k_bool_int, DL.k_bool_str, DL.k_bool_tuple, DL.k_bool_list, DL.k_bool_bool, DL.k_int_int, DL.k_int_str, DL.k_int_tuple, DL.k_int_list, DL.k_int_bool, DL.k_str_int, DL.k_str_str, DL.k_str_tuple, DL.k_str_list, DL.k_str_bool, DL.k_list_int, DL.k_list_str, DL.k_list_tuple, DL.k_list_list, DL.k_list_bool, DL.k_tuple_int, DL.k_tuple_str, DL.k_tuple_tuple, DL.k_tuple_list, DL.k_tuple_bool, DL.k_dict_int, DL.k_dict_str, DL.k_dict_tuple, DL.k_dict_list, DL.k_dict_bool, DL.runDef, DL.sSeq, DL.sIf, DL.sE, DL.sSet, DL.sRet, DL.sNx, DL.sPar, DL.assign, DL.free_z, DL.free_s, DL.okB_u, DL.okB_v, DL.okB_o, DL.fresh, DL.toD, DL.peek, DL.peeks, DL.giv, DL.eC, DL.eVar, DL.eUn, DL.eBin, DL.eT, DL.eB, DL.tNotE, DL.tAndE, DL.tOrE, DL.eIf, DL.eNot, DL.eAnd, DL.eOr, DL.eChain, DL.eDs, DL.eTup, DL.eLst, DL.eVs, DL.eBi, DL.eDct, DL.eKs, DL.mergeD, DL.sPut, DL.sFor, DL.sAsg, DL.tgN, DL.tgT, DL.tgs, DL.eMut, DL.gAppend, DL.eM1, DL.eFmt, DL.eJs, DL.eSl, DL.ePart, DL.gIx, DL.keyD, DL.gAdd, DL.gSub, DL.gMul, DL.gMod, DL.gDiv, DL.gPow, DL.gLt, DL.gLe, DL.gGt, DL.gGe, DL.gIs, DL.gIsNot, DL.isNon, DL.gIsi, DL.tyD, DL.gLen, DL.gTuple, DL.sv, DL.truth, DL.eCall, DL.eArgs, DL.callF, DL.slotsOf, DL.countIo, DL.ioOf, DL.borsOf, DL.borOk, DL.back1, DL.putBack, DL.nolR, DL.nolM, DL.nolO, DL.fin, DL.ioM, DL.M.toD, DL.bind_ok, DL.bind_no, Option.bind_some, Option.bind_none, Option.map_some, Option.map_none, List.length_cons, List.length_nil, List.length_append, List.length_map, List.append_nil, List.nil_append, List.cons_append, List.map_cons, List.map_nil, List.replicate, List.getElem?_cons_zero, List.getElem?_cons_succ, List.getElem?_nil, List.set_cons_zero, List.set_cons_succ, Nat.zero_add, Nat.add_zero, Nat.reduceAdd, Nat.reduceSub, if_true, if_false, Bool.not_true, Bool.not_false, Bool.and_self, Bool.and_true, Bool.true_and, Bool.or_true, Bool.true_or, Bool.false_or, Bool.or_false, List.isEmpty_nil, List.isEmpty_cons, if_pos, reduceIte, Bool.false_eq_true, eq_self, and_self, and_true, true_and, ↓reduceIte, Nat.le_refl, reduceCtorEq, Nat.sub_self, List.all_cons, List.all_nil, Bool.false_and, Nat.zero_le, Nat.reduceLeDiff, Nat.reduceEqDiff, Int.cast_ofNat_Int, Int.reduceLE, Int.reduceLT, Int.reduceEq, Int.reduceNe, Int.reduceAdd, Int.reduceSub, Int.reduceMul, Int.reduceNeg, Int.reduceToNat, decide_true, decide_false, ne_eq, not_true_eq_false, not_false_eq_true]
def treeD (w d : Int) (ps : List Prs) : D := .tup [.int w, .int d, .tup (ps.map pD)]
theorem fault_ok {w d : Int} {ps : List Prs} (g : Goods ps) (l : ps.length ≤ 16) (w0 : 1 ≤ w) (w1 : w ≤ 60) (d0 : 0 ≤ d) (d1 : d ≤ 4) : F_tree_fault [.v (treeD w d ps)] = .ok (.v .non) none := by
  have wk := wait_int w
  have dk := deep_int d
  have mk := misfit_ok g l
  have l' : ¬ (16 : Int) < (ps.length : Int) := by omega
  simp only [F_tree_fault, b_tree_fault, treeD, int_ne, wk, dk, mk, w0, w1, d0, d1, decide_eq_false l', DL.le_size, DL.lt_size, Int.reducePow, Nat.reducePow, Int.reduceLT, or_true, true_or, or_false, false_or, or_self, DL.k_NoneType_int, DL.k_NoneType_str, DL.k_NoneType_tuple, DL.k_NoneType_list, DL.k_NoneType_bool, DL.k_bool_int, DL.k_bool_str, DL.k_bool_tuple, DL.k_bool_list, DL.k_bool_bool, DL.k_int_int, DL.k_int_str, DL.k_int_tuple, DL.k_int_list, DL.k_int_bool, DL.k_str_int, DL.k_str_str, DL.k_str_tuple, DL.k_str_list, DL.k_str_bool, DL.k_list_int, DL.k_list_str, DL.k_list_tuple, DL.k_list_list, DL.k_list_bool, DL.k_tuple_int, DL.k_tuple_str, DL.k_tuple_tuple, DL.k_tuple_list, DL.k_tuple_bool, DL.k_dict_int, DL.k_dict_str, DL.k_dict_tuple, DL.k_dict_list, DL.k_dict_bool, DL.runDef, DL.sSeq, DL.sIf, DL.sE, DL.sSet, DL.sRet, DL.sNx, DL.sPar, DL.assign, DL.free_z, DL.free_s, DL.okB_u, DL.okB_v, DL.okB_o, DL.fresh, DL.toD, DL.peek, DL.peeks, DL.giv, DL.eC, DL.eVar, DL.eUn, DL.eBin, DL.eT, DL.eB, DL.tNotE, DL.tAndE, DL.tOrE, DL.eIf, DL.eNot, DL.eAnd, DL.eOr, DL.eChain, DL.eDs, DL.eTup, DL.eLst, DL.eVs, DL.eBi, DL.eDct, DL.eKs, DL.mergeD, DL.sPut, DL.sFor, DL.sAsg, DL.tgN, DL.tgT, DL.tgs, DL.eMut, DL.gAppend, DL.eM1, DL.eFmt, DL.eJs, DL.eSl, DL.ePart, DL.gIx, DL.keyD, DL.gAdd, DL.gSub, DL.gMul, DL.gMod, DL.gDiv, DL.gPow, DL.gLt, DL.gLe, DL.gGt, DL.gGe, DL.gIs, DL.gIsNot, DL.isNon, DL.gIsi, DL.tyD, DL.gLen, DL.gTuple, DL.sv, DL.truth, DL.eCall, DL.eArgs, DL.callF, DL.slotsOf, DL.countIo, DL.ioOf, DL.borsOf, DL.borOk, DL.back1, DL.putBack, DL.nolR, DL.nolM, DL.nolO, DL.fin, DL.ioM, DL.M.toD, DL.bind_ok, DL.bind_no, Option.bind_some, Option.bind_none, Option.map_some, Option.map_none, List.length_cons, List.length_nil, List.length_append, List.length_map, List.append_nil, List.nil_append, List.cons_append, List.map_cons, List.map_nil, List.replicate, List.getElem?_cons_zero, List.getElem?_cons_succ, List.getElem?_nil, List.set_cons_zero, List.set_cons_succ, Nat.zero_add, Nat.add_zero, Nat.reduceAdd, Nat.reduceSub, if_true, if_false, Bool.not_true, Bool.not_false, Bool.and_self, Bool.and_true, Bool.true_and, Bool.or_true, Bool.true_or, Bool.false_or, Bool.or_false, List.isEmpty_nil, List.isEmpty_cons, if_pos, reduceIte, Bool.false_eq_true, eq_self, and_self, and_true, true_and, ↓reduceIte, Nat.le_refl, reduceCtorEq, Nat.sub_self, List.all_cons, List.all_nil, Bool.false_and, Nat.zero_le, Nat.reduceLeDiff, Nat.reduceEqDiff, Int.cast_ofNat_Int, Int.reduceLE, Int.reduceLT, Int.reduceEq, Int.reduceNe, Int.reduceAdd, Int.reduceSub, Int.reduceMul, Int.reduceNeg, Int.reduceToNat, decide_true, decide_false, ne_eq, not_true_eq_false, not_false_eq_true]
theorem need_ok {w d : Int} {ps : List Prs} (g : Goods ps) (l : ps.length ≤ 16) (w0 : 1 ≤ w) (w1 : w ≤ 60) (d0 : 0 ≤ d) (d1 : d ≤ 4) : F_need_tree [.v (treeD w d ps)] = .ok (.v .non) none := by
  have fk := fault_ok g l w0 w1 d0 d1
  simp only [F_need_tree, b_need_tree, fk, DL.le_size, DL.lt_size, Int.reducePow, Nat.reducePow, Int.reduceLT, or_true, true_or, or_false, false_or, or_self, DL.k_NoneType_int, DL.k_NoneType_str, DL.k_NoneType_tuple, DL.k_NoneType_list, DL.k_NoneType_bool, DL.k_bool_int, DL.k_bool_str, DL.k_bool_tuple, DL.k_bool_list, DL.k_bool_bool, DL.k_int_int, DL.k_int_str, DL.k_int_tuple, DL.k_int_list, DL.k_int_bool, DL.k_str_int, DL.k_str_str, DL.k_str_tuple, DL.k_str_list, DL.k_str_bool, DL.k_list_int, DL.k_list_str, DL.k_list_tuple, DL.k_list_list, DL.k_list_bool, DL.k_tuple_int, DL.k_tuple_str, DL.k_tuple_tuple, DL.k_tuple_list, DL.k_tuple_bool, DL.k_dict_int, DL.k_dict_str, DL.k_dict_tuple, DL.k_dict_list, DL.k_dict_bool, DL.runDef, DL.sSeq, DL.sIf, DL.sE, DL.sSet, DL.sRet, DL.sNx, DL.sPar, DL.assign, DL.free_z, DL.free_s, DL.okB_u, DL.okB_v, DL.okB_o, DL.fresh, DL.toD, DL.peek, DL.peeks, DL.giv, DL.eC, DL.eVar, DL.eUn, DL.eBin, DL.eT, DL.eB, DL.tNotE, DL.tAndE, DL.tOrE, DL.eIf, DL.eNot, DL.eAnd, DL.eOr, DL.eChain, DL.eDs, DL.eTup, DL.eLst, DL.eVs, DL.eBi, DL.eDct, DL.eKs, DL.mergeD, DL.sPut, DL.sFor, DL.sAsg, DL.tgN, DL.tgT, DL.tgs, DL.eMut, DL.gAppend, DL.eM1, DL.eFmt, DL.eJs, DL.eSl, DL.ePart, DL.gIx, DL.keyD, DL.gAdd, DL.gSub, DL.gMul, DL.gMod, DL.gDiv, DL.gPow, DL.gLt, DL.gLe, DL.gGt, DL.gGe, DL.gIs, DL.gIsNot, DL.isNon, DL.gIsi, DL.tyD, DL.gLen, DL.gTuple, DL.sv, DL.truth, DL.eCall, DL.eArgs, DL.callF, DL.slotsOf, DL.countIo, DL.ioOf, DL.borsOf, DL.borOk, DL.back1, DL.putBack, DL.nolR, DL.nolM, DL.nolO, DL.fin, DL.ioM, DL.M.toD, DL.bind_ok, DL.bind_no, Option.bind_some, Option.bind_none, Option.map_some, Option.map_none, List.length_cons, List.length_nil, List.length_append, List.length_map, List.append_nil, List.nil_append, List.cons_append, List.map_cons, List.map_nil, List.replicate, List.getElem?_cons_zero, List.getElem?_cons_succ, List.getElem?_nil, List.set_cons_zero, List.set_cons_succ, Nat.zero_add, Nat.add_zero, Nat.reduceAdd, Nat.reduceSub, if_true, if_false, Bool.not_true, Bool.not_false, Bool.and_self, Bool.and_true, Bool.true_and, Bool.or_true, Bool.true_or, Bool.false_or, Bool.or_false, List.isEmpty_nil, List.isEmpty_cons, if_pos, reduceIte, Bool.false_eq_true, eq_self, and_self, and_true, true_and, ↓reduceIte, Nat.le_refl, reduceCtorEq, Nat.sub_self, List.all_cons, List.all_nil, Bool.false_and, Nat.zero_le, Nat.reduceLeDiff, Nat.reduceEqDiff, Int.cast_ofNat_Int, Int.reduceLE, Int.reduceLT, Int.reduceEq, Int.reduceNe, Int.reduceAdd, Int.reduceSub, Int.reduceMul, Int.reduceNeg, Int.reduceToNat, decide_true, decide_false, ne_eq, not_true_eq_false, not_false_eq_true]
end K05

namespace K05
open DL PySem L2
/-! texts -/
def wd (p : Prs) : Str := if p.ab = Str.ofString "" then Str.ofString "-" else p.ab
def numS (i : Int) : Str := Str.ofString (toString i)
def rowS (p : Prs) : Str := p.nm ++ Str.ofString " " ++ wd p ++ Str.ofString " " ++ numS p.tk
def headS (w d : Int) : Str := Str.ofString "tree " ++ numS w ++ Str.ofString " " ++ numS d
def textS (w d : Int) (ps : List Prs) : Str := Txt.join (Str.ofString "\n") (headS w d :: ps.map rowS)
theorem num_len : ∀ n : Fin 61, (numS (n.val : Int)).length ≤ 2 := by decide +kernel
theorem numS_len {i : Int} (h0 : 0 ≤ i) (h1 : i ≤ 60) : (numS i).length ≤ 2 := by
  have := num_len ⟨i.toNat, by omega⟩
  rwa [show ((⟨i.toNat, by omega⟩ : Fin 61).val : Int) = i from Int.toNat_of_nonneg h0] at this
theorem log_ok {i : Int} (h0 : 0 ≤ i) (h1 : i ≤ 60) : i.natAbs.log2 < 1920 := Nat.lt_of_le_of_lt (Nat.log2_le_self _) (by omega)
theorem sp_len : (Str.ofString " ").length = 1 := by decide +kernel
theorem tree_len : (Str.ofString "tree ").length = 5 := by decide +kernel
theorem dash_len : (Str.ofString "-").length = 1 := by decide +kernel
theorem nil_len : (Str.ofString "").length = 0 := by decide +kernel
structure PrsOk (p : Prs) : Prop where
  nm : okN p.nm
  ab : p.ab = Str.ofString "" ∨ okN p.ab
  t0 : 1 ≤ p.tk
  t1 : p.tk ≤ 60
theorem Goods.ok {ps : List Prs} (g : Goods ps) {i : Nat} {p : Prs} (h : ps[i]? = some p) : PrsOk p := by
  obtain ⟨a, _, b, c, _, d⟩ := g i p h
  exact ⟨a, d, b, c⟩
theorem wd_len {p : Prs} (o : PrsOk p) : (wd p).length ≤ 8 := by
  unfold wd
  split
  · rw [dash_len]; omega
  · rename_i h
    exact (o.ab.resolve_left h).2.1
theorem size64 {n : Nat} (h : n ≤ 64) : n ≤ sizeLine := Nat.le_trans h (by decide)
theorem row_ok {x : D} {p : Prs} (o : PrsOk p) (rows : List D) (s2 s3 s4 : DL.Slot) (z : rows.length ≤ 60) : f0__law_text [.v x, .o false false (.l rows), .v (.str p.nm), .v (.str p.ab), .v (.int p.tk)] = .ok .nx [.v x, .o false false (.l (rows ++ [.str (rowS p)])), .v (.str p.nm), .v (.str p.ab), .v (.int p.tk)] := by
  have l1 := o.nm.2.1
  have l2 := wd_len o
  have l3 := numS_len (by have := o.t0; omega) o.t1
  have lg := log_ok (i := p.tk) (by have := o.t0; omega) o.t1
  have z' : rows.length < sizeLine := Nat.lt_of_le_of_lt z (by decide)
  have ne := str_ne (ab_ok o.ab) none_ok
  have e1 : p.nm.length + (Str.ofString " ").length ≤ sizeLine := size64 (by rw [sp_len]; omega)
  have e2 : (p.nm ++ Str.ofString " ").length + (wd p).length ≤ sizeLine := size64 (by rw [Str.length_append, sp_len]; omega)
  have e3 : (p.nm ++ Str.ofString " " ++ wd p).length + (Str.ofString " ").length ≤ sizeLine := size64 (by rw [Str.length_append, Str.length_append, sp_len]; omega)
  have e4 : (p.nm ++ Str.ofString " " ++ wd p ++ Str.ofString " ").length + (numS p.tk).length ≤ sizeLine := size64 (by rw [Str.length_append, Str.length_append, Str.length_append, sp_len]; omega)
  unfold rowS
  by_cases h : p.ab = Str.ofString ""
  · have wp : wd p = Str.ofString "-" := if_pos h
    rw [wp] at e2 e3 e4 ⊢
    unfold numS at e4 ⊢
    simp only [f0__law_text, gStr, ne, lg, z', e1, e2, e3, e4, decide_eq_true h, DL.le_size, DL.lt_size, Int.reducePow, Nat.reducePow, Int.reduceLT, or_true, true_or, or_false, false_or, or_self, DL.k_NoneType_int, DL.k_NoneType_str, DL.k_NoneType_tuple, DL.k_NoneType_list, DL.k_NoneType_bool, DL.k_bool_int, DL.k_bool_str, DL.k_bool_tuple, DL.k_bool_list, DL.k_bool_bool, DL.k_int_int, DL.k_int_str, DL.k_int_tuple, DL.k_int_list, DL.k_int_bool, DL.k_str_int, DL.k_str_str, DL.k_str_tuple, DL.k_str_list, DL.k_str_bool, DL.k_list_int, DL.k_list_str, DL.k_list_tuple, DL.k_list_list, DL.k_list_bool, DL.k_tuple_int, DL.k_tuple_str, DL.k_tuple_tuple, DL.k_tuple_list, DL.k_tuple_bool, DL.k_dict_int, DL.k_dict_str, DL.k_dict_tuple, DL.k_dict_list, DL.k_dict_bool, DL.runDef, DL.sSeq, DL.sIf, DL.sE, DL.sSet, DL.sRet, DL.sNx, DL.sPar, DL.assign, DL.free_z, DL.free_s, DL.okB_u, DL.okB_v, DL.okB_o, DL.fresh, DL.toD, DL.peek, DL.peeks, DL.giv, DL.eC, DL.eVar, DL.eUn, DL.eBin, DL.eT, DL.eB, DL.tNotE, DL.tAndE, DL.tOrE, DL.eIf, DL.eNot, DL.eAnd, DL.eOr, DL.eChain, DL.eDs, DL.eTup, DL.eLst, DL.eVs, DL.eBi, DL.eDct, DL.eKs, DL.mergeD, DL.sPut, DL.sFor, DL.sAsg, DL.tgN, DL.tgT, DL.tgs, DL.eMut, DL.gAppend, DL.eM1, DL.eFmt, DL.eJs, DL.eSl, DL.ePart, DL.gIx, DL.keyD, DL.gAdd, DL.gSub, DL.gMul, DL.gMod, DL.gDiv, DL.gPow, DL.gLt, DL.gLe, DL.gGt, DL.gGe, DL.gIs, DL.gIsNot, DL.isNon, DL.gIsi, DL.tyD, DL.gLen, DL.gTuple, DL.sv, DL.truth, DL.eCall, DL.eArgs, DL.callF, DL.slotsOf, DL.countIo, DL.ioOf, DL.borsOf, DL.borOk, DL.back1, DL.putBack, DL.nolR, DL.nolM, DL.nolO, DL.fin, DL.ioM, DL.M.toD, DL.bind_ok, DL.bind_no, Option.bind_some, Option.bind_none, Option.map_some, Option.map_none, List.length_cons, List.length_nil, List.length_append, List.length_map, List.append_nil, List.nil_append, List.cons_append, List.map_cons, List.map_nil, List.replicate, List.getElem?_cons_zero, List.getElem?_cons_succ, List.getElem?_nil, List.set_cons_zero, List.set_cons_succ, Nat.zero_add, Nat.add_zero, Nat.reduceAdd, Nat.reduceSub, if_true, if_false, Bool.not_true, Bool.not_false, Bool.and_self, Bool.and_true, Bool.true_and, Bool.or_true, Bool.true_or, Bool.false_or, Bool.or_false, List.isEmpty_nil, List.isEmpty_cons, if_pos, reduceIte, Bool.false_eq_true, eq_self, and_self, and_true, true_and, ↓reduceIte, Nat.le_refl, reduceCtorEq, Nat.sub_self, List.all_cons, List.all_nil, Bool.false_and, Nat.zero_le, Nat.reduceLeDiff, Nat.reduceEqDiff, Int.cast_ofNat_Int, Int.reduceLE, Int.reduceLT, Int.reduceEq, Int.reduceNe, Int.reduceAdd, Int.reduceSub, Int.reduceMul, Int.reduceNeg, Int.reduceToNat, decide_true, decide_false, ne_eq, not_true_eq_false, not_false_eq_true]
  · have wp : wd p = p.ab := if_neg h
    rw [wp] at e2 e3 e4 ⊢
    unfold numS at e4 ⊢
    simp only [f0__law_text, gStr, ne, lg, z', e1, e2, e3, e4, decide_eq_false h, DL.le_size, DL.lt_size, Int.reducePow, Nat.reducePow, Int.reduceLT, or_true, true_or, or_false, false_or, or_self, DL.k_NoneType_int, DL.k_NoneType_str, DL.k_NoneType_tuple, DL.k_NoneType_list, DL.k_NoneType_bool, DL.k_bool_int, DL.k_bool_str, DL.k_bool_tuple, DL.k_bool_list, DL.k_bool_bool, DL.k_int_int, DL.k_int_str, DL.k_int_tuple, DL.k_int_list, DL.k_int_bool, DL.k_str_int, DL.k_str_str, DL.k_str_tuple, DL.k_str_list, DL.k_str_bool, DL.k_list_int, DL.k_list_str, DL.k_list_tuple, DL.k_list_list, DL.k_list_bool, DL.k_tuple_int, DL.k_tuple_str, DL.k_tuple_tuple, DL.k_tuple_list, DL.k_tuple_bool, DL.k_dict_int, DL.k_dict_str, DL.k_dict_tuple, DL.k_dict_list, DL.k_dict_bool, DL.runDef, DL.sSeq, DL.sIf, DL.sE, DL.sSet, DL.sRet, DL.sNx, DL.sPar, DL.assign, DL.free_z, DL.free_s, DL.okB_u, DL.okB_v, DL.okB_o, DL.fresh, DL.toD, DL.peek, DL.peeks, DL.giv, DL.eC, DL.eVar, DL.eUn, DL.eBin, DL.eT, DL.eB, DL.tNotE, DL.tAndE, DL.tOrE, DL.eIf, DL.eNot, DL.eAnd, DL.eOr, DL.eChain, DL.eDs, DL.eTup, DL.eLst, DL.eVs, DL.eBi, DL.eDct, DL.eKs, DL.mergeD, DL.sPut, DL.sFor, DL.sAsg, DL.tgN, DL.tgT, DL.tgs, DL.eMut, DL.gAppend, DL.eM1, DL.eFmt, DL.eJs, DL.eSl, DL.ePart, DL.gIx, DL.keyD, DL.gAdd, DL.gSub, DL.gMul, DL.gMod, DL.gDiv, DL.gPow, DL.gLt, DL.gLe, DL.gGt, DL.gGe, DL.gIs, DL.gIsNot, DL.isNon, DL.gIsi, DL.tyD, DL.gLen, DL.gTuple, DL.sv, DL.truth, DL.eCall, DL.eArgs, DL.callF, DL.slotsOf, DL.countIo, DL.ioOf, DL.borsOf, DL.borOk, DL.back1, DL.putBack, DL.nolR, DL.nolM, DL.nolO, DL.fin, DL.ioM, DL.M.toD, DL.bind_ok, DL.bind_no, Option.bind_some, Option.bind_none, Option.map_some, Option.map_none, List.length_cons, List.length_nil, List.length_append, List.length_map, List.append_nil, List.nil_append, List.cons_append, List.map_cons, List.map_nil, List.replicate, List.getElem?_cons_zero, List.getElem?_cons_succ, List.getElem?_nil, List.set_cons_zero, List.set_cons_succ, Nat.zero_add, Nat.add_zero, Nat.reduceAdd, Nat.reduceSub, if_true, if_false, Bool.not_true, Bool.not_false, Bool.and_self, Bool.and_true, Bool.true_and, Bool.or_true, Bool.true_or, Bool.false_or, Bool.or_false, List.isEmpty_nil, List.isEmpty_cons, if_pos, reduceIte, Bool.false_eq_true, eq_self, and_self, and_true, true_and, ↓reduceIte, Nat.le_refl, reduceCtorEq, Nat.sub_self, List.all_cons, List.all_nil, Bool.false_and, Nat.zero_le, Nat.reduceLeDiff, Nat.reduceEqDiff, Int.cast_ofNat_Int, Int.reduceLE, Int.reduceLT, Int.reduceEq, Int.reduceNe, Int.reduceAdd, Int.reduceSub, Int.reduceMul, Int.reduceNeg, Int.reduceToNat, decide_true, decide_false, ne_eq, not_true_eq_false, not_false_eq_true]
theorem row_len {p : Prs} (o : PrsOk p) : (rowS p).length ≤ 20 := by
  have l1 := o.nm.2.1
  have l2 := wd_len o
  have l3 := numS_len (by have := o.t0; omega) o.t1
  unfold rowS
  rw [Str.length_append, Str.length_append, Str.length_append, Str.length_append, sp_len]
  omega
theorem sum_le {α : Type} (f : α → Nat) (B : Nat) : ∀ l : List α, (∀ x ∈ l, f x ≤ B) → (l.map f).sum ≤ l.length * B
  | [], _ => by simp
  | x :: l, h => by
    have h1 := h x List.mem_cons_self
    have h2 := sum_le f B l fun y hy => h y (List.mem_cons_of_mem _ hy)
    rw [List.map_cons, List.sum_cons, List.length_cons, Nat.succ_mul]
    omega
theorem Goods.each {ps : List Prs} (g : Goods ps) : ∀ p ∈ ps, PrsOk p := fun p hp => by
  obtain ⟨i, hi⟩ := List.getElem?_of_mem hp
  exact g.ok hi
theorem join_ok {w d : Int} {ps : List Prs} (g : Goods ps) (l : ps.length ≤ 16) (w0 : 1 ≤ w) (w1 : w ≤ 60) (d0 : 0 ≤ d) (d1 : d ≤ 4) : gJoin (Str.ofString "\n") (.lst (.str (headS w d) :: ps.map fun p => .str (rowS p))) = some (.v (.str (textS w d ps))) := by
  have e : (D.str (headS w d) :: ps.map fun p => D.str (rowS p)) = (headS w d :: ps.map rowS).map D.str := by rw [List.map_cons, List.map_map]; rfl
  have n1 : (Str.ofString "\n").length = 1 := by decide +kernel
  have s1 := sum_le (fun p => (rowS p).length) 20 ps fun p hp => row_len (g.each p hp)
  have h1 := numS_len (i := w) (by omega) w1
  have h2 := numS_len d0 (by omega)
  have hl : (headS w d).length ≤ 10 := by
    unfold headS
    rw [Str.length_append, Str.length_append, Str.length_append, sp_len, tree_len]
    omega
  unfold gJoin
  rw [e]
  dsimp only
  rw [strs_map]
  show (if _ then _ else _) = _
  rw [if_pos (by
    rw [List.map_cons, List.map_map, List.sum_cons, List.length_cons, List.length_map, n1]
    have : (ps.map ((fun x => x.length) ∘ rowS)).sum ≤ ps.length * 20 := s1
    omega)]
  rfl
theorem ltext_ok {w d : Int} {ps : List Prs} (g : Goods ps) (l : ps.length ≤ 16) (w0 : 1 ≤ w) (w1 : w ≤ 60) (d0 : 0 ≤ d) (d1 : d ≤ 4) : F__law_text [.v (treeD w d ps)] = .ok (.v (.str (textS w d ps))) none := by
  have h1 := numS_len (i := w) (by omega) w1
  have h2 := numS_len d0 (by omega)
  have lw := log_ok (i := w) (by omega) w1
  have ld := log_ok d0 (by omega)
  have e1 : (Str.ofString "tree ").length + (numS w).length ≤ sizeLine := size64 (by rw [tree_len]; omega)
  have e2 : (Str.ofString "tree " ++ numS w).length + (Str.ofString " ").length ≤ sizeLine := size64 (by rw [Str.length_append, tree_len, sp_len]; omega)
  have e3 : (Str.ofString "tree " ++ numS w ++ Str.ofString " ").length + (numS d).length ≤ sizeLine := size64 (by rw [Str.length_append, Str.length_append, tree_len, sp_len]; omega)
  have a0 : L2.atI [D.int w, .int d, .tup (ps.map pD)] 0 = some (.int w) := rfl
  have a1 : L2.atI [D.int w, .int d, .tup (ps.map pD)] 1 = some (.int d) := rfl
  have a2 : L2.atI [D.int w, .int d, .tup (ps.map pD)] 2 = some (.tup (ps.map pD)) := rfl
  have s1 : sSet 1 (eLst [eBin gAdd (eBin gAdd (eBin gAdd (eC (.str "tree ")) (eBi gStr [eBin gIx (eVar 0) (eC (.int 0))])) (eC (.str " "))) (eBi gStr [eBin gIx (eVar 0) (eC (.int 1))])]) [.v (treeD w d ps), .u, .u, .u, .u] = .ok .nx [.v (treeD w d ps), .o false false (.l [.str (headS w d)]), .u, .u, .u] := by
    unfold headS
    unfold numS at e1 e2 e3 ⊢
    simp only [treeD, gStr, a0, a1, lw, ld, e1, e2, e3, DL.le_size, DL.lt_size, Int.reducePow, Nat.reducePow, Int.reduceLT, or_true, true_or, or_false, false_or, or_self, DL.k_NoneType_int, DL.k_NoneType_str, DL.k_NoneType_tuple, DL.k_NoneType_list, DL.k_NoneType_bool, DL.k_bool_int, DL.k_bool_str, DL.k_bool_tuple, DL.k_bool_list, DL.k_bool_bool, DL.k_int_int, DL.k_int_str, DL.k_int_tuple, DL.k_int_list, DL.k_int_bool, DL.k_str_int, DL.k_str_str, DL.k_str_tuple, DL.k_str_list, DL.k_str_bool, DL.k_list_int, DL.k_list_str, DL.k_list_tuple, DL.k_list_list, DL.k_list_bool, DL.k_tuple_int, DL.k_tuple_str, DL.k_tuple_tuple, DL.k_tuple_list, DL.k_tuple_bool, DL.k_dict_int, DL.k_dict_str, DL.k_dict_tuple, DL.k_dict_list, DL.k_dict_bool, DL.runDef, DL.sSeq, DL.sIf, DL.sE, DL.sSet, DL.sRet, DL.sNx, DL.sPar, DL.assign, DL.free_z, DL.free_s, DL.okB_u, DL.okB_v, DL.okB_o, DL.fresh, DL.toD, DL.peek, DL.peeks, DL.giv, DL.eC, DL.eVar, DL.eUn, DL.eBin, DL.eT, DL.eB, DL.tNotE, DL.tAndE, DL.tOrE, DL.eIf, DL.eNot, DL.eAnd, DL.eOr, DL.eChain, DL.eDs, DL.eTup, DL.eLst, DL.eVs, DL.eBi, DL.eDct, DL.eKs, DL.mergeD, DL.sPut, DL.sFor, DL.sAsg, DL.tgN, DL.tgT, DL.tgs, DL.eMut, DL.gAppend, DL.eM1, DL.eFmt, DL.eJs, DL.eSl, DL.ePart, DL.gIx, DL.keyD, DL.gAdd, DL.gSub, DL.gMul, DL.gMod, DL.gDiv, DL.gPow, DL.gLt, DL.gLe, DL.gGt, DL.gGe, DL.gIs, DL.gIsNot, DL.isNon, DL.gIsi, DL.tyD, DL.gLen, DL.gTuple, DL.sv, DL.truth, DL.eCall, DL.eArgs, DL.callF, DL.slotsOf, DL.countIo, DL.ioOf, DL.borsOf, DL.borOk, DL.back1, DL.putBack, DL.nolR, DL.nolM, DL.nolO, DL.fin, DL.ioM, DL.M.toD, DL.bind_ok, DL.bind_no, Option.bind_some, Option.bind_none, Option.map_some, Option.map_none, List.length_cons, List.length_nil, List.length_append, List.length_map, List.append_nil, List.nil_append, List.cons_append, List.map_cons, List.map_nil, List.replicate, List.getElem?_cons_zero, List.getElem?_cons_succ, List.getElem?_nil, List.set_cons_zero, List.set_cons_succ, Nat.zero_add, Nat.add_zero, Nat.reduceAdd, Nat.reduceSub, if_true, if_false, Bool.not_true, Bool.not_false, Bool.and_self, Bool.and_true, Bool.true_and, Bool.or_true, Bool.true_or, Bool.false_or, Bool.or_false, List.isEmpty_nil, List.isEmpty_cons, if_pos, reduceIte, Bool.false_eq_true, eq_self, and_self, and_true, true_and, ↓reduceIte, Nat.le_refl, reduceCtorEq, Nat.sub_self, List.all_cons, List.all_nil, Bool.false_and, Nat.zero_le, Nat.reduceLeDiff, Nat.reduceEqDiff, Int.cast_ofNat_Int, Int.reduceLE, Int.reduceLT, Int.reduceEq, Int.reduceNe, Int.reduceAdd, Int.reduceSub, Int.reduceMul, Int.reduceNeg, Int.reduceToNat, decide_true, decide_false, ne_eq, not_true_eq_false, not_false_eq_true]
  have loop : ∃ e', forL (tgT [tgN 2, tgN 3, tgN 4]) f0__law_text (ps.map pD) [.v (treeD w d ps), .o false false (.l [.str (headS w d)]), .u, .u, .u] = .ok .nx e' ∧ ∃ s2 s3 s4, e' = [.v (treeD w d ps), .o false false (.l (.str (headS w d) :: (ps.take (ps.map pD).length).map fun p => .str (rowS p))), s2, s3, s4] ∧ okB s2 = true ∧ okB s3 = true ∧ okB s4 = true := by
    refine forL_run (fun i e => ∃ s2 s3 s4, e = [.v (treeD w d ps), .o false false (.l (.str (headS w d) :: (ps.take i).map fun p => .str (rowS p))), s2, s3, s4] ∧ okB s2 = true ∧ okB s3 = true ∧ okB s4 = true) ⟨.u, .u, .u, by simp, rfl, rfl, rfl⟩ fun i x e hd hi => ?_
    obtain ⟨s2, s3, s4, rfl, o2, o3, o4⟩ := hi
    have il := (List.getElem?_eq_some_iff.mp hd).1
    rw [List.length_map] at il
    rw [List.getElem?_map, List.getElem?_eq_getElem il] at hd
    cases hd
    have ok := g.ok (List.getElem?_eq_getElem il)
    have tk : ps.take (i + 1) = ps.take i ++ [ps[i]] := by rw [List.take_add_one, List.getElem?_eq_getElem il]; rfl
    refine ⟨_, _, ?_, row_ok ok (.str (headS w d) :: (ps.take i).map fun p => .str (rowS p)) s2 s3 s4 (by rw [List.length_cons, List.length_map, List.length_take]; omega), ⟨_, _, _, by rw [tk, List.map_append]; rfl, rfl, rfl, rfl⟩⟩
    simp only [pD, o2, o3, o4, DL.le_size, DL.lt_size, Int.reducePow, Nat.reducePow, Int.reduceLT, or_true, true_or, or_false, false_or, or_self, DL.k_NoneType_int, DL.k_NoneType_str, DL.k_NoneType_tuple, DL.k_NoneType_list, DL.k_NoneType_bool, DL.k_bool_int, DL.k_bool_str, DL.k_bool_tuple, DL.k_bool_list, DL.k_bool_bool, DL.k_int_int, DL.k_int_str, DL.k_int_tuple, DL.k_int_list, DL.k_int_bool, DL.k_str_int, DL.k_str_str, DL.k_str_tuple, DL.k_str_list, DL.k_str_bool, DL.k_list_int, DL.k_list_str, DL.k_list_tuple, DL.k_list_list, DL.k_list_bool, DL.k_tuple_int, DL.k_tuple_str, DL.k_tuple_tuple, DL.k_tuple_list, DL.k_tuple_bool, DL.k_dict_int, DL.k_dict_str, DL.k_dict_tuple, DL.k_dict_list, DL.k_dict_bool, DL.runDef, DL.sSeq, DL.sIf, DL.sE, DL.sSet, DL.sRet, DL.sNx, DL.sPar, DL.assign, DL.free_z, DL.free_s, DL.okB_u, DL.okB_v, DL.okB_o, DL.fresh, DL.toD, DL.peek, DL.peeks, DL.giv, DL.eC, DL.eVar, DL.eUn, DL.eBin, DL.eT, DL.eB, DL.tNotE, DL.tAndE, DL.tOrE, DL.eIf, DL.eNot, DL.eAnd, DL.eOr, DL.eChain, DL.eDs, DL.eTup, DL.eLst, DL.eVs, DL.eBi, DL.eDct, DL.eKs, DL.mergeD, DL.sPut, DL.sFor, DL.sAsg, DL.tgN, DL.tgT, DL.tgs, DL.eMut, DL.gAppend, DL.eM1, DL.eFmt, DL.eJs, DL.eSl, DL.ePart, DL.gIx, DL.keyD, DL.gAdd, DL.gSub, DL.gMul, DL.gMod, DL.gDiv, DL.gPow, DL.gLt, DL.gLe, DL.gGt, DL.gGe, DL.gIs, DL.gIsNot, DL.isNon, DL.gIsi, DL.tyD, DL.gLen, DL.gTuple, DL.sv, DL.truth, DL.eCall, DL.eArgs, DL.callF, DL.slotsOf, DL.countIo, DL.ioOf, DL.borsOf, DL.borOk, DL.back1, DL.putBack, DL.nolR, DL.nolM, DL.nolO, DL.fin, DL.ioM, DL.M.toD, DL.bind_ok, DL.bind_no, Option.bind_some, Option.bind_none, Option.map_some, Option.map_none, List.length_cons, List.length_nil, List.length_append, List.length_map, List.append_nil, List.nil_append, List.cons_append, List.map_cons, List.map_nil, List.replicate, List.getElem?_cons_zero, List.getElem?_cons_succ, List.getElem?_nil, List.set_cons_zero, List.set_cons_succ, Nat.zero_add, Nat.add_zero, Nat.reduceAdd, Nat.reduceSub, if_true, if_false, Bool.not_true, Bool.not_false, Bool.and_self, Bool.and_true, Bool.true_and, Bool.or_true, Bool.true_or, Bool.false_or, Bool.or_false, List.isEmpty_nil, List.isEmpty_cons, if_pos, reduceIte, Bool.false_eq_true, eq_self, and_self, and_true, true_and, ↓reduceIte, Nat.le_refl, reduceCtorEq, Nat.sub_self, List.all_cons, List.all_nil, Bool.false_and, Nat.zero_le, Nat.reduceLeDiff, Nat.reduceEqDiff, Int.cast_ofNat_Int, Int.reduceLE, Int.reduceLT, Int.reduceEq, Int.reduceNe, Int.reduceAdd, Int.reduceSub, Int.reduceMul, Int.reduceNeg, Int.reduceToNat, decide_true, decide_false, ne_eq, not_true_eq_false, not_false_eq_true]
  obtain ⟨e', he, s2, s3, s4, rfl, _⟩ := loop
  rw [List.length_map, List.take_length] at he
  have s2' : sFor (tgT [tgN 2, tgN 3, tgN 4]) (iSeq (eBin gIx (eVar 0) (eC (.int 2)))) f0__law_text [.v (treeD w d ps), .o false false (.l [.str (headS w d)]), .u, .u, .u] = .ok .nx [.v (treeD w d ps), .o false false (.l (.str (headS w d) :: ps.map fun p => .str (rowS p))), s2, s3, s4] := by
    refine Eq.trans ?_ he
    simp only [treeD, iSeq, a2, DL.le_size, DL.lt_size, Int.reducePow, Nat.reducePow, Int.reduceLT, or_true, true_or, or_false, false_or, or_self, DL.k_NoneType_int, DL.k_NoneType_str, DL.k_NoneType_tuple, DL.k_NoneType_list, DL.k_NoneType_bool, DL.k_bool_int, DL.k_bool_str, DL.k_bool_tuple, DL.k_bool_list, DL.k_bool_bool, DL.k_int_int, DL.k_int_str, DL.k_int_tuple, DL.k_int_list, DL.k_int_bool, DL.k_str_int, DL.k_str_str, DL.k_str_tuple, DL.k_str_list, DL.k_str_bool, DL.k_list_int, DL.k_list_str, DL.k_list_tuple, DL.k_list_list, DL.k_list_bool, DL.k_tuple_int, DL.k_tuple_str, DL.k_tuple_tuple, DL.k_tuple_list, DL.k_tuple_bool, DL.k_dict_int, DL.k_dict_str, DL.k_dict_tuple, DL.k_dict_list, DL.k_dict_bool, DL.runDef, DL.sSeq, DL.sIf, DL.sE, DL.sSet, DL.sRet, DL.sNx, DL.sPar, DL.assign, DL.free_z, DL.free_s, DL.okB_u, DL.okB_v, DL.okB_o, DL.fresh, DL.toD, DL.peek, DL.peeks, DL.giv, DL.eC, DL.eVar, DL.eUn, DL.eBin, DL.eT, DL.eB, DL.tNotE, DL.tAndE, DL.tOrE, DL.eIf, DL.eNot, DL.eAnd, DL.eOr, DL.eChain, DL.eDs, DL.eTup, DL.eLst, DL.eVs, DL.eBi, DL.eDct, DL.eKs, DL.mergeD, DL.sPut, DL.sFor, DL.sAsg, DL.tgN, DL.tgT, DL.tgs, DL.eMut, DL.gAppend, DL.eM1, DL.eFmt, DL.eJs, DL.eSl, DL.ePart, DL.gIx, DL.keyD, DL.gAdd, DL.gSub, DL.gMul, DL.gMod, DL.gDiv, DL.gPow, DL.gLt, DL.gLe, DL.gGt, DL.gGe, DL.gIs, DL.gIsNot, DL.isNon, DL.gIsi, DL.tyD, DL.gLen, DL.gTuple, DL.sv, DL.truth, DL.eCall, DL.eArgs, DL.callF, DL.slotsOf, DL.countIo, DL.ioOf, DL.borsOf, DL.borOk, DL.back1, DL.putBack, DL.nolR, DL.nolM, DL.nolO, DL.fin, DL.ioM, DL.M.toD, DL.bind_ok, DL.bind_no, Option.bind_some, Option.bind_none, Option.map_some, Option.map_none, List.length_cons, List.length_nil, List.length_append, List.length_map, List.append_nil, List.nil_append, List.cons_append, List.map_cons, List.map_nil, List.replicate, List.getElem?_cons_zero, List.getElem?_cons_succ, List.getElem?_nil, List.set_cons_zero, List.set_cons_succ, Nat.zero_add, Nat.add_zero, Nat.reduceAdd, Nat.reduceSub, if_true, if_false, Bool.not_true, Bool.not_false, Bool.and_self, Bool.and_true, Bool.true_and, Bool.or_true, Bool.true_or, Bool.false_or, Bool.or_false, List.isEmpty_nil, List.isEmpty_cons, if_pos, reduceIte, Bool.false_eq_true, eq_self, and_self, and_true, true_and, ↓reduceIte, Nat.le_refl, reduceCtorEq, Nat.sub_self, List.all_cons, List.all_nil, Bool.false_and, Nat.zero_le, Nat.reduceLeDiff, Nat.reduceEqDiff, Int.cast_ofNat_Int, Int.reduceLE, Int.reduceLT, Int.reduceEq, Int.reduceNe, Int.reduceAdd, Int.reduceSub, Int.reduceMul, Int.reduceNeg, Int.reduceToNat, decide_true, decide_false, ne_eq, not_true_eq_false, not_false_eq_true]
  have j := join_ok g l w0 w1 d0 d1
  refine (run_of (x := .v (.str (textS w d ps))) (e := [.v (treeD w d ps), .o false false (.l (.str (headS w d) :: ps.map fun p => .str (rowS p))), s2, s3, s4]) ?_).trans rfl
  refine (sSeq_nx s1).trans ((sSeq_nx s2').trans ?_)
  simp only [j, DL.le_size, DL.lt_size, Int.reducePow, Nat.reducePow, Int.reduceLT, or_true, true_or, or_false, false_or, or_self, DL.k_NoneType_int, DL.k_NoneType_str, DL.k_NoneType_tuple, DL.k_NoneType_list, DL.k_NoneType_bool, DL.k_bool_int, DL.k_bool_str, DL.k_bool_tuple, DL.k_bool_list, DL.k_bool_bool, DL.k_int_int, DL.k_int_str, DL.k_int_tuple, DL.k_int_list, DL.k_int_bool, DL.k_str_int, DL.k_str_str, DL.k_str_tuple, DL.k_str_list, DL.k_str_bool, DL.k_list_int, DL.k_list_str, DL.k_list_tuple, DL.k_list_list, DL.k_list_bool, DL.k_tuple_int, DL.k_tuple_str, DL.k_tuple_tuple, DL.k_tuple_list, DL.k_tuple_bool, DL.k_dict_int, DL.k_dict_str, DL.k_dict_tuple, DL.k_dict_list, DL.k_dict_bool, DL.runDef, DL.sSeq, DL.sIf, DL.sE, DL.sSet, DL.sRet, DL.sNx, DL.sPar, DL.assign, DL.free_z, DL.free_s, DL.okB_u, DL.okB_v, DL.okB_o, DL.fresh, DL.toD, DL.peek, DL.peeks, DL.giv, DL.eC, DL.eVar, DL.eUn, DL.eBin, DL.eT, DL.eB, DL.tNotE, DL.tAndE, DL.tOrE, DL.eIf, DL.eNot, DL.eAnd, DL.eOr, DL.eChain, DL.eDs, DL.eTup, DL.eLst, DL.eVs, DL.eBi, DL.eDct, DL.eKs, DL.mergeD, DL.sPut, DL.sFor, DL.sAsg, DL.tgN, DL.tgT, DL.tgs, DL.eMut, DL.gAppend, DL.eM1, DL.eFmt, DL.eJs, DL.eSl, DL.ePart, DL.gIx, DL.keyD, DL.gAdd, DL.gSub, DL.gMul, DL.gMod, DL.gDiv, DL.gPow, DL.gLt, DL.gLe, DL.gGt, DL.gGe, DL.gIs, DL.gIsNot, DL.isNon, DL.gIsi, DL.tyD, DL.gLen, DL.gTuple, DL.sv, DL.truth, DL.eCall, DL.eArgs, DL.callF, DL.slotsOf, DL.countIo, DL.ioOf, DL.borsOf, DL.borOk, DL.back1, DL.putBack, DL.nolR, DL.nolM, DL.nolO, DL.fin, DL.ioM, DL.M.toD, DL.bind_ok, DL.bind_no, Option.bind_some, Option.bind_none, Option.map_some, Option.map_none, List.length_cons, List.length_nil, List.length_append, List.length_map, List.append_nil, List.nil_append, List.cons_append, List.map_cons, List.map_nil, List.replicate, List.getElem?_cons_zero, List.getElem?_cons_succ, List.getElem?_nil, List.set_cons_zero, List.set_cons_succ, Nat.zero_add, Nat.add_zero, Nat.reduceAdd, Nat.reduceSub, if_true, if_false, Bool.not_true, Bool.not_false, Bool.and_self, Bool.and_true, Bool.true_and, Bool.or_true, Bool.true_or, Bool.false_or, Bool.or_false, List.isEmpty_nil, List.isEmpty_cons, if_pos, reduceIte, Bool.false_eq_true, eq_self, and_self, and_true, true_and, ↓reduceIte, Nat.le_refl, reduceCtorEq, Nat.sub_self, List.all_cons, List.all_nil, Bool.false_and, Nat.zero_le, Nat.reduceLeDiff, Nat.reduceEqDiff, Int.cast_ofNat_Int, Int.reduceLE, Int.reduceLT, Int.reduceEq, Int.reduceNe, Int.reduceAdd, Int.reduceSub, Int.reduceMul, Int.reduceNeg, Int.reduceToNat, decide_true, decide_false, ne_eq, not_true_eq_false, not_false_eq_true]
end K05

namespace K05
open DL PySem L2
theorem bell_ok {p : Prs} (o : PrsOk p) : F_bell_or_name [.v (.str p.ab)] = .ok (.v (.str (wd p))) none := by
  have eq := str_eq (ab_ok o.ab) none_ok
  by_cases h : p.ab = Str.ofString ""
  · have wp : wd p = Str.ofString "-" := if_pos h
    simp only [F_bell_or_name, b_bell_or_name, eq, decide_eq_true h, wp, DL.le_size, DL.lt_size, Int.reducePow, Nat.reducePow, Int.reduceLT, or_true, true_or, or_false, false_or, or_self, DL.k_NoneType_int, DL.k_NoneType_str, DL.k_NoneType_tuple, DL.k_NoneType_list, DL.k_NoneType_bool, DL.k_bool_int, DL.k_bool_str, DL.k_bool_tuple, DL.k_bool_list, DL.k_bool_bool, DL.k_int_int, DL.k_int_str, DL.k_int_tuple, DL.k_int_list, DL.k_int_bool, DL.k_str_int, DL.k_str_str, DL.k_str_tuple, DL.k_str_list, DL.k_str_bool, DL.k_list_int, DL.k_list_str, DL.k_list_tuple, DL.k_list_list, DL.k_list_bool, DL.k_tuple_int, DL.k_tuple_str, DL.k_tuple_tuple, DL.k_tuple_list, DL.k_tuple_bool, DL.k_dict_int, DL.k_dict_str, DL.k_dict_tuple, DL.k_dict_list, DL.k_dict_bool, DL.runDef, DL.sSeq, DL.sIf, DL.sE, DL.sSet, DL.sRet, DL.sNx, DL.sPar, DL.assign, DL.free_z, DL.free_s, DL.okB_u, DL.okB_v, DL.okB_o, DL.fresh, DL.toD, DL.peek, DL.peeks, DL.giv, DL.eC, DL.eVar, DL.eUn, DL.eBin, DL.eT, DL.eB, DL.tNotE, DL.tAndE, DL.tOrE, DL.eIf, DL.eNot, DL.eAnd, DL.eOr, DL.eChain, DL.eDs, DL.eTup, DL.eLst, DL.eVs, DL.eBi, DL.eDct, DL.eKs, DL.mergeD, DL.sPut, DL.sFor, DL.sAsg, DL.tgN, DL.tgT, DL.tgs, DL.eMut, DL.gAppend, DL.eM1, DL.eFmt, DL.eJs, DL.eSl, DL.ePart, DL.gIx, DL.keyD, DL.gAdd, DL.gSub, DL.gMul, DL.gMod, DL.gDiv, DL.gPow, DL.gLt, DL.gLe, DL.gGt, DL.gGe, DL.gIs, DL.gIsNot, DL.isNon, DL.gIsi, DL.tyD, DL.gLen, DL.gTuple, DL.sv, DL.truth, DL.eCall, DL.eArgs, DL.callF, DL.slotsOf, DL.countIo, DL.ioOf, DL.borsOf, DL.borOk, DL.back1, DL.putBack, DL.nolR, DL.nolM, DL.nolO, DL.fin, DL.ioM, DL.M.toD, DL.bind_ok, DL.bind_no, Option.bind_some, Option.bind_none, Option.map_some, Option.map_none, List.length_cons, List.length_nil, List.length_append, List.length_map, List.append_nil, List.nil_append, List.cons_append, List.map_cons, List.map_nil, List.replicate, List.getElem?_cons_zero, List.getElem?_cons_succ, List.getElem?_nil, List.set_cons_zero, List.set_cons_succ, Nat.zero_add, Nat.add_zero, Nat.reduceAdd, Nat.reduceSub, if_true, if_false, Bool.not_true, Bool.not_false, Bool.and_self, Bool.and_true, Bool.true_and, Bool.or_true, Bool.true_or, Bool.false_or, Bool.or_false, List.isEmpty_nil, List.isEmpty_cons, if_pos, reduceIte, Bool.false_eq_true, eq_self, and_self, and_true, true_and, ↓reduceIte, Nat.le_refl, reduceCtorEq, Nat.sub_self, List.all_cons, List.all_nil, Bool.false_and, Nat.zero_le, Nat.reduceLeDiff, Nat.reduceEqDiff, Int.cast_ofNat_Int, Int.reduceLE, Int.reduceLT, Int.reduceEq, Int.reduceNe, Int.reduceAdd, Int.reduceSub, Int.reduceMul, Int.reduceNeg, Int.reduceToNat, decide_true, decide_false, ne_eq, not_true_eq_false, not_false_eq_true]
  · have wp : wd p = p.ab := if_neg h
    simp only [F_bell_or_name, b_bell_or_name, eq, decide_eq_false h, wp, DL.le_size, DL.lt_size, Int.reducePow, Nat.reducePow, Int.reduceLT, or_true, true_or, or_false, false_or, or_self, DL.k_NoneType_int, DL.k_NoneType_str, DL.k_NoneType_tuple, DL.k_NoneType_list, DL.k_NoneType_bool, DL.k_bool_int, DL.k_bool_str, DL.k_bool_tuple, DL.k_bool_list, DL.k_bool_bool, DL.k_int_int, DL.k_int_str, DL.k_int_tuple, DL.k_int_list, DL.k_int_bool, DL.k_str_int, DL.k_str_str, DL.k_str_tuple, DL.k_str_list, DL.k_str_bool, DL.k_list_int, DL.k_list_str, DL.k_list_tuple, DL.k_list_list, DL.k_list_bool, DL.k_tuple_int, DL.k_tuple_str, DL.k_tuple_tuple, DL.k_tuple_list, DL.k_tuple_bool, DL.k_dict_int, DL.k_dict_str, DL.k_dict_tuple, DL.k_dict_list, DL.k_dict_bool, DL.runDef, DL.sSeq, DL.sIf, DL.sE, DL.sSet, DL.sRet, DL.sNx, DL.sPar, DL.assign, DL.free_z, DL.free_s, DL.okB_u, DL.okB_v, DL.okB_o, DL.fresh, DL.toD, DL.peek, DL.peeks, DL.giv, DL.eC, DL.eVar, DL.eUn, DL.eBin, DL.eT, DL.eB, DL.tNotE, DL.tAndE, DL.tOrE, DL.eIf, DL.eNot, DL.eAnd, DL.eOr, DL.eChain, DL.eDs, DL.eTup, DL.eLst, DL.eVs, DL.eBi, DL.eDct, DL.eKs, DL.mergeD, DL.sPut, DL.sFor, DL.sAsg, DL.tgN, DL.tgT, DL.tgs, DL.eMut, DL.gAppend, DL.eM1, DL.eFmt, DL.eJs, DL.eSl, DL.ePart, DL.gIx, DL.keyD, DL.gAdd, DL.gSub, DL.gMul, DL.gMod, DL.gDiv, DL.gPow, DL.gLt, DL.gLe, DL.gGt, DL.gGe, DL.gIs, DL.gIsNot, DL.isNon, DL.gIsi, DL.tyD, DL.gLen, DL.gTuple, DL.sv, DL.truth, DL.eCall, DL.eArgs, DL.callF, DL.slotsOf, DL.countIo, DL.ioOf, DL.borsOf, DL.borOk, DL.back1, DL.putBack, DL.nolR, DL.nolM, DL.nolO, DL.fin, DL.ioM, DL.M.toD, DL.bind_ok, DL.bind_no, Option.bind_some, Option.bind_none, Option.map_some, Option.map_none, List.length_cons, List.length_nil, List.length_append, List.length_map, List.append_nil, List.nil_append, List.cons_append, List.map_cons, List.map_nil, List.replicate, List.getElem?_cons_zero, List.getElem?_cons_succ, List.getElem?_nil, List.set_cons_zero, List.set_cons_succ, Nat.zero_add, Nat.add_zero, Nat.reduceAdd, Nat.reduceSub, if_true, if_false, Bool.not_true, Bool.not_false, Bool.and_self, Bool.and_true, Bool.true_and, Bool.or_true, Bool.true_or, Bool.false_or, Bool.or_false, List.isEmpty_nil, List.isEmpty_cons, if_pos, reduceIte, Bool.false_eq_true, eq_self, and_self, and_true, true_and, ↓reduceIte, Nat.le_refl, reduceCtorEq, Nat.sub_self, List.all_cons, List.all_nil, Bool.false_and, Nat.zero_le, Nat.reduceLeDiff, Nat.reduceEqDiff, Int.cast_ofNat_Int, Int.reduceLE, Int.reduceLT, Int.reduceEq, Int.reduceNe, Int.reduceAdd, Int.reduceSub, Int.reduceMul, Int.reduceNeg, Int.reduceToNat, decide_true, decide_false, ne_eq, not_true_eq_false, not_false_eq_true]
theorem trow_ok {x a b c : D} {p : Prs} (o : PrsOk p) (rows : List D) (z : rows.length ≤ 60) : f0_tree_text [.v x, .v a, .v b, .v c, .o false false (.l rows), .v (.str p.nm), .v (.str p.ab), .v (.int p.tk)] = .ok .nx [.v x, .v a, .v b, .v c, .o false false (.l (rows ++ [.str (rowS p)])), .v (.str p.nm), .v (.str p.ab), .v (.int p.tk)] := by
  have l1 := o.nm.2.1
  have l2 := wd_len o
  have l3 := numS_len (by have := o.t0; omega) o.t1
  have lg := log_ok (i := p.tk) (by have := o.t0; omega) o.t1
  have z' : rows.length < sizeLine := Nat.lt_of_le_of_lt z (by decide)
  have bl := bell_ok o
  have e0 : p.nm.length ≤ sizeLine := size64 (by omega)
  have e0' : (wd p).length ≤ sizeLine := size64 (by omega)
  have e1 : (p.nm ++ Str.ofString " ").length ≤ sizeLine := size64 (by rw [Str.length_append, sp_len]; omega)
  have e2 : (p.nm ++ Str.ofString " " ++ wd p).length ≤ sizeLine := size64 (by rw [Str.length_append, Str.length_append, sp_len]; omega)
  have e3 : (p.nm ++ Str.ofString " " ++ wd p ++ Str.ofString " ").length ≤ sizeLine := size64 (by rw [Str.length_append, Str.length_append, Str.length_append, sp_len]; omega)
  have e4 : (p.nm ++ Str.ofString " " ++ wd p ++ Str.ofString " " ++ numS p.tk).length ≤ sizeLine := size64 (by rw [Str.length_append, Str.length_append, Str.length_append, Str.length_append, sp_len]; omega)
  unfold rowS
  unfold numS at e4 ⊢
  simp only [f0_tree_text, lg, z', bl, e0, e0', e1, e2, e3, e4, Str.empty_append, DL.le_size, DL.lt_size, Int.reducePow, Nat.reducePow, Int.reduceLT, or_true, true_or, or_false, false_or, or_self, DL.k_NoneType_int, DL.k_NoneType_str, DL.k_NoneType_tuple, DL.k_NoneType_list, DL.k_NoneType_bool, DL.k_bool_int, DL.k_bool_str, DL.k_bool_tuple, DL.k_bool_list, DL.k_bool_bool, DL.k_int_int, DL.k_int_str, DL.k_int_tuple, DL.k_int_list, DL.k_int_bool, DL.k_str_int, DL.k_str_str, DL.k_str_tuple, DL.k_str_list, DL.k_str_bool, DL.k_list_int, DL.k_list_str, DL.k_list_tuple, DL.k_list_list, DL.k_list_bool, DL.k_tuple_int, DL.k_tuple_str, DL.k_tuple_tuple, DL.k_tuple_list, DL.k_tuple_bool, DL.k_dict_int, DL.k_dict_str, DL.k_dict_tuple, DL.k_dict_list, DL.k_dict_bool, DL.runDef, DL.sSeq, DL.sIf, DL.sE, DL.sSet, DL.sRet, DL.sNx, DL.sPar, DL.assign, DL.free_z, DL.free_s, DL.okB_u, DL.okB_v, DL.okB_o, DL.fresh, DL.toD, DL.peek, DL.peeks, DL.giv, DL.eC, DL.eVar, DL.eUn, DL.eBin, DL.eT, DL.eB, DL.tNotE, DL.tAndE, DL.tOrE, DL.eIf, DL.eNot, DL.eAnd, DL.eOr, DL.eChain, DL.eDs, DL.eTup, DL.eLst, DL.eVs, DL.eBi, DL.eDct, DL.eKs, DL.mergeD, DL.sPut, DL.sFor, DL.sAsg, DL.tgN, DL.tgT, DL.tgs, DL.eMut, DL.gAppend, DL.eM1, DL.eFmt, DL.eJs, DL.eSl, DL.ePart, DL.gIx, DL.keyD, DL.gAdd, DL.gSub, DL.gMul, DL.gMod, DL.gDiv, DL.gPow, DL.gLt, DL.gLe, DL.gGt, DL.gGe, DL.gIs, DL.gIsNot, DL.isNon, DL.gIsi, DL.tyD, DL.gLen, DL.gTuple, DL.sv, DL.truth, DL.eCall, DL.eArgs, DL.callF, DL.slotsOf, DL.countIo, DL.ioOf, DL.borsOf, DL.borOk, DL.back1, DL.putBack, DL.nolR, DL.nolM, DL.nolO, DL.fin, DL.ioM, DL.M.toD, DL.bind_ok, DL.bind_no, Option.bind_some, Option.bind_none, Option.map_some, Option.map_none, List.length_cons, List.length_nil, List.length_append, List.length_map, List.append_nil, List.nil_append, List.cons_append, List.map_cons, List.map_nil, List.replicate, List.getElem?_cons_zero, List.getElem?_cons_succ, List.getElem?_nil, List.set_cons_zero, List.set_cons_succ, Nat.zero_add, Nat.add_zero, Nat.reduceAdd, Nat.reduceSub, if_true, if_false, Bool.not_true, Bool.not_false, Bool.and_self, Bool.and_true, Bool.true_and, Bool.or_true, Bool.true_or, Bool.false_or, Bool.or_false, List.isEmpty_nil, List.isEmpty_cons, if_pos, reduceIte, Bool.false_eq_true, eq_self, and_self, and_true, true_and, ↓reduceIte, Nat.le_refl, reduceCtorEq, Nat.sub_self, List.all_cons, List.all_nil, Bool.false_and, Nat.zero_le, Nat.reduceLeDiff, Nat.reduceEqDiff, Int.cast_ofNat_Int, Int.reduceLE, Int.reduceLT, Int.reduceEq, Int.reduceNe, Int.reduceAdd, Int.reduceSub, Int.reduceMul, Int.reduceNeg, Int.reduceToNat, decide_true, decide_false, ne_eq, not_true_eq_false, not_false_eq_true]
theorem text_ok {w d : Int} {ps : List Prs} (g : Goods ps) (l : ps.length ≤ 16) (w0 : 1 ≤ w) (w1 : w ≤ 60) (d0 : 0 ≤ d) (d1 : d ≤ 4) : F_tree_text [.v (treeD w d ps)] = .ok (.v (.str (textS w d ps))) none := by
  have h1 := numS_len (i := w) (by omega) w1
  have h2 := numS_len d0 (by omega)
  have lw := log_ok (i := w) (by omega) w1
  have ld := log_ok d0 (by omega)
  have nk := need_ok g l w0 w1 d0 d1
  have s0 : sE (eCall F_need_tree 1 none [] [(.v, eVar 0)]) [.v (treeD w d ps), .u, .u, .u, .u, .u, .u, .u] = .ok .nx [.v (treeD w d ps), .u, .u, .u, .u, .u, .u, .u] := by
    simp only [nk, DL.le_size, DL.lt_size, Int.reducePow, Nat.reducePow, Int.reduceLT, or_true, true_or, or_false, false_or, or_self, DL.k_NoneType_int, DL.k_NoneType_str, DL.k_NoneType_tuple, DL.k_NoneType_list, DL.k_NoneType_bool, DL.k_bool_int, DL.k_bool_str, DL.k_bool_tuple, DL.k_bool_list, DL.k_bool_bool, DL.k_int_int, DL.k_int_str, DL.k_int_tuple, DL.k_int_list, DL.k_int_bool, DL.k_str_int, DL.k_str_str, DL.k_str_tuple, DL.k_str_list, DL.k_str_bool, DL.k_list_int, DL.k_list_str, DL.k_list_tuple, DL.k_list_list, DL.k_list_bool, DL.k_tuple_int, DL.k_tuple_str, DL.k_tuple_tuple, DL.k_tuple_list, DL.k_tuple_bool, DL.k_dict_int, DL.k_dict_str, DL.k_dict_tuple, DL.k_dict_list, DL.k_dict_bool, DL.runDef, DL.sSeq, DL.sIf, DL.sE, DL.sSet, DL.sRet, DL.sNx, DL.sPar, DL.assign, DL.free_z, DL.free_s, DL.okB_u, DL.okB_v, DL.okB_o, DL.fresh, DL.toD, DL.peek, DL.peeks, DL.giv, DL.eC, DL.eVar, DL.eUn, DL.eBin, DL.eT, DL.eB, DL.tNotE, DL.tAndE, DL.tOrE, DL.eIf, DL.eNot, DL.eAnd, DL.eOr, DL.eChain, DL.eDs, DL.eTup, DL.eLst, DL.eVs, DL.eBi, DL.eDct, DL.eKs, DL.mergeD, DL.sPut, DL.sFor, DL.sAsg, DL.tgN, DL.tgT, DL.tgs, DL.eMut, DL.gAppend, DL.eM1, DL.eFmt, DL.eJs, DL.eSl, DL.ePart, DL.gIx, DL.keyD, DL.gAdd, DL.gSub, DL.gMul, DL.gMod, DL.gDiv, DL.gPow, DL.gLt, DL.gLe, DL.gGt, DL.gGe, DL.gIs, DL.gIsNot, DL.isNon, DL.gIsi, DL.tyD, DL.gLen, DL.gTuple, DL.sv, DL.truth, DL.eCall, DL.eArgs, DL.callF, DL.slotsOf, DL.countIo, DL.ioOf, DL.borsOf, DL.borOk, DL.back1, DL.putBack, DL.nolR, DL.nolM, DL.nolO, DL.fin, DL.ioM, DL.M.toD, DL.bind_ok, DL.bind_no, Option.bind_some, Option.bind_none, Option.map_some, Option.map_none, List.length_cons, List.length_nil, List.length_append, List.length_map, List.append_nil, List.nil_append, List.cons_append, List.map_cons, List.map_nil, List.replicate, List.getElem?_cons_zero, List.getElem?_cons_succ, List.getElem?_nil, List.set_cons_zero, List.set_cons_succ, Nat.zero_add, Nat.add_zero, Nat.reduceAdd, Nat.reduceSub, if_true, if_false, Bool.not_true, Bool.not_false, Bool.and_self, Bool.and_true, Bool.true_and, Bool.or_true, Bool.true_or, Bool.false_or, Bool.or_false, List.isEmpty_nil, List.isEmpty_cons, if_pos, reduceIte, Bool.false_eq_true, eq_self, and_self, and_true, true_and, ↓reduceIte, Nat.le_refl, reduceCtorEq, Nat.sub_self, List.all_cons, List.all_nil, Bool.false_and, Nat.zero_le, Nat.reduceLeDiff, Nat.reduceEqDiff, Int.cast_ofNat_Int, Int.reduceLE, Int.reduceLT, Int.reduceEq, Int.reduceNe, Int.reduceAdd, Int.reduceSub, Int.reduceMul, Int.reduceNeg, Int.reduceToNat, decide_true, decide_false, ne_eq, not_true_eq_false, not_false_eq_true]
  have s1 : sAsg (tgT [tgN 1, tgN 2, tgN 3]) (eVar 0) [.v (treeD w d ps), .u, .u, .u, .u, .u, .u, .u] = .ok .nx [.v (treeD w d ps), .v (.int w), .v (.int d), .v (.tup (ps.map pD)), .u, .u, .u, .u] := by
    simp only [treeD, DL.le_size, DL.lt_size, Int.reducePow, Nat.reducePow, Int.reduceLT, or_true, true_or, or_false, false_or, or_self, DL.k_NoneType_int, DL.k_NoneType_str, DL.k_NoneType_tuple, DL.k_NoneType_list, DL.k_NoneType_bool, DL.k_bool_int, DL.k_bool_str, DL.k_bool_tuple, DL.k_bool_list, DL.k_bool_bool, DL.k_int_int, DL.k_int_str, DL.k_int_tuple, DL.k_int_list, DL.k_int_bool, DL.k_str_int, DL.k_str_str, DL.k_str_tuple, DL.k_str_list, DL.k_str_bool, DL.k_list_int, DL.k_list_str, DL.k_list_tuple, DL.k_list_list, DL.k_list_bool, DL.k_tuple_int, DL.k_tuple_str, DL.k_tuple_tuple, DL.k_tuple_list, DL.k_tuple_bool, DL.k_dict_int, DL.k_dict_str, DL.k_dict_tuple, DL.k_dict_list, DL.k_dict_bool, DL.runDef, DL.sSeq, DL.sIf, DL.sE, DL.sSet, DL.sRet, DL.sNx, DL.sPar, DL.assign, DL.free_z, DL.free_s, DL.okB_u, DL.okB_v, DL.okB_o, DL.fresh, DL.toD, DL.peek, DL.peeks, DL.giv, DL.eC, DL.eVar, DL.eUn, DL.eBin, DL.eT, DL.eB, DL.tNotE, DL.tAndE, DL.tOrE, DL.eIf, DL.eNot, DL.eAnd, DL.eOr, DL.eChain, DL.eDs, DL.eTup, DL.eLst, DL.eVs, DL.eBi, DL.eDct, DL.eKs, DL.mergeD, DL.sPut, DL.sFor, DL.sAsg, DL.tgN, DL.tgT, DL.tgs, DL.eMut, DL.gAppend, DL.eM1, DL.eFmt, DL.eJs, DL.eSl, DL.ePart, DL.gIx, DL.keyD, DL.gAdd, DL.gSub, DL.gMul, DL.gMod, DL.gDiv, DL.gPow, DL.gLt, DL.gLe, DL.gGt, DL.gGe, DL.gIs, DL.gIsNot, DL.isNon, DL.gIsi, DL.tyD, DL.gLen, DL.gTuple, DL.sv, DL.truth, DL.eCall, DL.eArgs, DL.callF, DL.slotsOf, DL.countIo, DL.ioOf, DL.borsOf, DL.borOk, DL.back1, DL.putBack, DL.nolR, DL.nolM, DL.nolO, DL.fin, DL.ioM, DL.M.toD, DL.bind_ok, DL.bind_no, Option.bind_some, Option.bind_none, Option.map_some, Option.map_none, List.length_cons, List.length_nil, List.length_append, List.length_map, List.append_nil, List.nil_append, List.cons_append, List.map_cons, List.map_nil, List.replicate, List.getElem?_cons_zero, List.getElem?_cons_succ, List.getElem?_nil, List.set_cons_zero, List.set_cons_succ, Nat.zero_add, Nat.add_zero, Nat.reduceAdd, Nat.reduceSub, if_true, if_false, Bool.not_true, Bool.not_false, Bool.and_self, Bool.and_true, Bool.true_and, Bool.or_true, Bool.true_or, Bool.false_or, Bool.or_false, List.isEmpty_nil, List.isEmpty_cons, if_pos, reduceIte, Bool.false_eq_true, eq_self, and_self, and_true, true_and, ↓reduceIte, Nat.le_refl, reduceCtorEq, Nat.sub_self, List.all_cons, List.all_nil, Bool.false_and, Nat.zero_le, Nat.reduceLeDiff, Nat.reduceEqDiff, Int.cast_ofNat_Int, Int.reduceLE, Int.reduceLT, Int.reduceEq, Int.reduceNe, Int.reduceAdd, Int.reduceSub, Int.reduceMul, Int.reduceNeg, Int.reduceToNat, decide_true, decide_false, ne_eq, not_true_eq_false, not_false_eq_true]
  have e0 : (Str.ofString "tree ").length ≤ sizeLine := size64 (by rw [tree_len]; omega)
  have e1 : (Str.ofString "tree " ++ numS w).length ≤ sizeLine := size64 (by rw [Str.length_append, tree_len]; omega)
  have e2 : (Str.ofString "tree " ++ numS w ++ Str.ofString " ").length ≤ sizeLine := size64 (by rw [Str.length_append, Str.length_append, tree_len, sp_len]; omega)
  have e3 : (Str.ofString "tree " ++ numS w ++ Str.ofString " " ++ numS d).length ≤ sizeLine := size64 (by rw [Str.length_append, Str.length_append, Str.length_append, tree_len, sp_len]; omega)
  have s2 : sSet 4 (eLst [eJs [eC (.str "tree "), eFmt (eVar 1), eC (.str " "), eFmt (eVar 2)] Str.empty]) [.v (treeD w d ps), .v (.int w), .v (.int d), .v (.tup (ps.map pD)), .u, .u, .u, .u] = .ok .nx [.v (treeD w d ps), .v (.int w), .v (.int d), .v (.tup (ps.map pD)), .o false false (.l [.str (headS w d)]), .u, .u, .u] := by
    unfold headS
    unfold numS at e1 e2 e3 ⊢
    simp only [lw, ld, e0, e1, e2, e3, Str.empty_append, DL.le_size, DL.lt_size, Int.reducePow, Nat.reducePow, Int.reduceLT, or_true, true_or, or_false, false_or, or_self, DL.k_NoneType_int, DL.k_NoneType_str, DL.k_NoneType_tuple, DL.k_NoneType_list, DL.k_NoneType_bool, DL.k_bool_int, DL.k_bool_str, DL.k_bool_tuple, DL.k_bool_list, DL.k_bool_bool, DL.k_int_int, DL.k_int_str, DL.k_int_tuple, DL.k_int_list, DL.k_int_bool, DL.k_str_int, DL.k_str_str, DL.k_str_tuple, DL.k_str_list, DL.k_str_bool, DL.k_list_int, DL.k_list_str, DL.k_list_tuple, DL.k_list_list, DL.k_list_bool, DL.k_tuple_int, DL.k_tuple_str, DL.k_tuple_tuple, DL.k_tuple_list, DL.k_tuple_bool, DL.k_dict_int, DL.k_dict_str, DL.k_dict_tuple, DL.k_dict_list, DL.k_dict_bool, DL.runDef, DL.sSeq, DL.sIf, DL.sE, DL.sSet, DL.sRet, DL.sNx, DL.sPar, DL.assign, DL.free_z, DL.free_s, DL.okB_u, DL.okB_v, DL.okB_o, DL.fresh, DL.toD, DL.peek, DL.peeks, DL.giv, DL.eC, DL.eVar, DL.eUn, DL.eBin, DL.eT, DL.eB, DL.tNotE, DL.tAndE, DL.tOrE, DL.eIf, DL.eNot, DL.eAnd, DL.eOr, DL.eChain, DL.eDs, DL.eTup, DL.eLst, DL.eVs, DL.eBi, DL.eDct, DL.eKs, DL.mergeD, DL.sPut, DL.sFor, DL.sAsg, DL.tgN, DL.tgT, DL.tgs, DL.eMut, DL.gAppend, DL.eM1, DL.eFmt, DL.eJs, DL.eSl, DL.ePart, DL.gIx, DL.keyD, DL.gAdd, DL.gSub, DL.gMul, DL.gMod, DL.gDiv, DL.gPow, DL.gLt, DL.gLe, DL.gGt, DL.gGe, DL.gIs, DL.gIsNot, DL.isNon, DL.gIsi, DL.tyD, DL.gLen, DL.gTuple, DL.sv, DL.truth, DL.eCall, DL.eArgs, DL.callF, DL.slotsOf, DL.countIo, DL.ioOf, DL.borsOf, DL.borOk, DL.back1, DL.putBack, DL.nolR, DL.nolM, DL.nolO, DL.fin, DL.ioM, DL.M.toD, DL.bind_ok, DL.bind_no, Option.bind_some, Option.bind_none, Option.map_some, Option.map_none, List.length_cons, List.length_nil, List.length_append, List.length_map, List.append_nil, List.nil_append, List.cons_append, List.map_cons, List.map_nil, List.replicate, List.getElem?_cons_zero, List.getElem?_cons_succ, List.getElem?_nil, List.set_cons_zero, List.set_cons_succ, Nat.zero_add, Nat.add_zero, Nat.reduceAdd, Nat.reduceSub, if_true, if_false, Bool.not_true, Bool.not_false, Bool.and_self, Bool.and_true, Bool.true_and, Bool.or_true, Bool.true_or, Bool.false_or, Bool.or_false, List.isEmpty_nil, List.isEmpty_cons, if_pos, reduceIte, Bool.false_eq_true, eq_self, and_self, and_true, true_and, ↓reduceIte, Nat.le_refl, reduceCtorEq, Nat.sub_self, List.all_cons, List.all_nil, Bool.false_and, Nat.zero_le, Nat.reduceLeDiff, Nat.reduceEqDiff, Int.cast_ofNat_Int, Int.reduceLE, Int.reduceLT, Int.reduceEq, Int.reduceNe, Int.reduceAdd, Int.reduceSub, Int.reduceMul, Int.reduceNeg, Int.reduceToNat, decide_true, decide_false, ne_eq, not_true_eq_false, not_false_eq_true]
  have loop : ∃ e', forL (tgT [tgN 5, tgN 6, tgN 7]) f0_tree_text (ps.map pD) [.v (treeD w d ps), .v (.int w), .v (.int d), .v (.tup (ps.map pD)), .o false false (.l [.str (headS w d)]), .u, .u, .u] = .ok .nx e' ∧ ∃ s5 s6 s7, e' = [.v (treeD w d ps), .v (.int w), .v (.int d), .v (.tup (ps.map pD)), .o false false (.l (.str (headS w d) :: (ps.take (ps.map pD).length).map fun p => .str (rowS p))), s5, s6, s7] ∧ okB s5 = true ∧ okB s6 = true ∧ okB s7 = true := by
    refine forL_run (fun i e => ∃ s5 s6 s7, e = [.v (treeD w d ps), .v (.int w), .v (.int d), .v (.tup (ps.map pD)), .o false false (.l (.str (headS w d) :: (ps.take i).map fun p => .str (rowS p))), s5, s6, s7] ∧ okB s5 = true ∧ okB s6 = true ∧ okB s7 = true) ⟨.u, .u, .u, by simp, rfl, rfl, rfl⟩ fun i x e hd hi => ?_
    obtain ⟨s5, s6, s7, rfl, o5, o6, o7⟩ := hi
    have il := (List.getElem?_eq_some_iff.mp hd).1
    rw [List.length_map] at il
    rw [List.getElem?_map, List.getElem?_eq_getElem il] at hd
    cases hd
    have ok := g.ok (List.getElem?_eq_getElem il)
    have tk : ps.take (i + 1) = ps.take i ++ [ps[i]] := by rw [List.take_add_one, List.getElem?_eq_getElem il]; rfl
    refine ⟨_, _, ?_, trow_ok ok (.str (headS w d) :: (ps.take i).map fun p => .str (rowS p)) (by rw [List.length_cons, List.length_map, List.length_take]; omega), ⟨_, _, _, by rw [tk, List.map_append]; rfl, rfl, rfl, rfl⟩⟩
    simp only [pD, o5, o6, o7, DL.le_size, DL.lt_size, Int.reducePow, Nat.reducePow, Int.reduceLT, or_true, true_or, or_false, false_or, or_self, DL.k_NoneType_int, DL.k_NoneType_str, DL.k_NoneType_tuple, DL.k_NoneType_list, DL.k_NoneType_bool, DL.k_bool_int, DL.k_bool_str, DL.k_bool_tuple, DL.k_bool_list, DL.k_bool_bool, DL.k_int_int, DL.k_int_str, DL.k_int_tuple, DL.k_int_list, DL.k_int_bool, DL.k_str_int, DL.k_str_str, DL.k_str_tuple, DL.k_str_list, DL.k_str_bool, DL.k_list_int, DL.k_list_str, DL.k_list_tuple, DL.k_list_list, DL.k_list_bool, DL.k_tuple_int, DL.k_tuple_str, DL.k_tuple_tuple, DL.k_tuple_list, DL.k_tuple_bool, DL.k_dict_int, DL.k_dict_str, DL.k_dict_tuple, DL.k_dict_list, DL.k_dict_bool, DL.runDef, DL.sSeq, DL.sIf, DL.sE, DL.sSet, DL.sRet, DL.sNx, DL.sPar, DL.assign, DL.free_z, DL.free_s, DL.okB_u, DL.okB_v, DL.okB_o, DL.fresh, DL.toD, DL.peek, DL.peeks, DL.giv, DL.eC, DL.eVar, DL.eUn, DL.eBin, DL.eT, DL.eB, DL.tNotE, DL.tAndE, DL.tOrE, DL.eIf, DL.eNot, DL.eAnd, DL.eOr, DL.eChain, DL.eDs, DL.eTup, DL.eLst, DL.eVs, DL.eBi, DL.eDct, DL.eKs, DL.mergeD, DL.sPut, DL.sFor, DL.sAsg, DL.tgN, DL.tgT, DL.tgs, DL.eMut, DL.gAppend, DL.eM1, DL.eFmt, DL.eJs, DL.eSl, DL.ePart, DL.gIx, DL.keyD, DL.gAdd, DL.gSub, DL.gMul, DL.gMod, DL.gDiv, DL.gPow, DL.gLt, DL.gLe, DL.gGt, DL.gGe, DL.gIs, DL.gIsNot, DL.isNon, DL.gIsi, DL.tyD, DL.gLen, DL.gTuple, DL.sv, DL.truth, DL.eCall, DL.eArgs, DL.callF, DL.slotsOf, DL.countIo, DL.ioOf, DL.borsOf, DL.borOk, DL.back1, DL.putBack, DL.nolR, DL.nolM, DL.nolO, DL.fin, DL.ioM, DL.M.toD, DL.bind_ok, DL.bind_no, Option.bind_some, Option.bind_none, Option.map_some, Option.map_none, List.length_cons, List.length_nil, List.length_append, List.length_map, List.append_nil, List.nil_append, List.cons_append, List.map_cons, List.map_nil, List.replicate, List.getElem?_cons_zero, List.getElem?_cons_succ, List.getElem?_nil, List.set_cons_zero, List.set_cons_succ, Nat.zero_add, Nat.add_zero, Nat.reduceAdd, Nat.reduceSub, if_true, if_false, Bool.not_true, Bool.not_false, Bool.and_self, Bool.and_true, Bool.true_and, Bool.or_true, Bool.true_or, Bool.false_or, Bool.or_false, List.isEmpty_nil, List.isEmpty_cons, if_pos, reduceIte, Bool.false_eq_true, eq_self, and_self, and_true, true_and, ↓reduceIte, Nat.le_refl, reduceCtorEq, Nat.sub_self, List.all_cons, List.all_nil, Bool.false_and, Nat.zero_le, Nat.reduceLeDiff, Nat.reduceEqDiff, Int.cast_ofNat_Int, Int.reduceLE, Int.reduceLT, Int.reduceEq, Int.reduceNe, Int.reduceAdd, Int.reduceSub, Int.reduceMul, Int.reduceNeg, Int.reduceToNat, decide_true, decide_false, ne_eq, not_true_eq_false, not_false_eq_true]
  obtain ⟨e', he, s5, s6, s7, rfl, _⟩ := loop
  rw [List.length_map, List.take_length] at he
  have s3 : sFor (tgT [tgN 5, tgN 6, tgN 7]) (iSeq (eVar 3)) f0_tree_text [.v (treeD w d ps), .v (.int w), .v (.int d), .v (.tup (ps.map pD)), .o false false (.l [.str (headS w d)]), .u, .u, .u] = .ok .nx [.v (treeD w d ps), .v (.int w), .v (.int d), .v (.tup (ps.map pD)), .o false false (.l (.str (headS w d) :: ps.map fun p => .str (rowS p))), s5, s6, s7] := by
    refine Eq.trans ?_ he
    simp only [iSeq, DL.le_size, DL.lt_size, Int.reducePow, Nat.reducePow, Int.reduceLT, or_true, true_or, or_false, false_or, or_self, DL.k_NoneType_int, DL.k_NoneType_str, DL.k_NoneType_tuple, DL.k_NoneType_list, DL.k_NoneType_bool, DL.k_bool_int, DL.k_bool_str, DL.k_bool_tuple, DL.k_bool_list, DL.k_bool_bool, DL.k_int_int, DL.k_int_str, DL.k_int_tuple, DL.k_int_list, DL.k_int_bool, DL.k_str_int, DL.k_str_str, DL.k_str_tuple, DL.k_str_list, DL.k_str_bool, DL.k_list_int, DL.k_list_str, DL.k_list_tuple, DL.k_list_list, DL.k_list_bool, DL.k_tuple_int, DL.k_tuple_str, DL.k_tuple_tuple, DL.k_tuple_list, DL.k_tuple_bool, DL.k_dict_int, DL.k_dict_str, DL.k_dict_tuple, DL.k_dict_list, DL.k_dict_bool, DL.runDef, DL.sSeq, DL.sIf, DL.sE, DL.sSet, DL.sRet, DL.sNx, DL.sPar, DL.assign, DL.free_z, DL.free_s, DL.okB_u, DL.okB_v, DL.okB_o, DL.fresh, DL.toD, DL.peek, DL.peeks, DL.giv, DL.eC, DL.eVar, DL.eUn, DL.eBin, DL.eT, DL.eB, DL.tNotE, DL.tAndE, DL.tOrE, DL.eIf, DL.eNot, DL.eAnd, DL.eOr, DL.eChain, DL.eDs, DL.eTup, DL.eLst, DL.eVs, DL.eBi, DL.eDct, DL.eKs, DL.mergeD, DL.sPut, DL.sFor, DL.sAsg, DL.tgN, DL.tgT, DL.tgs, DL.eMut, DL.gAppend, DL.eM1, DL.eFmt, DL.eJs, DL.eSl, DL.ePart, DL.gIx, DL.keyD, DL.gAdd, DL.gSub, DL.gMul, DL.gMod, DL.gDiv, DL.gPow, DL.gLt, DL.gLe, DL.gGt, DL.gGe, DL.gIs, DL.gIsNot, DL.isNon, DL.gIsi, DL.tyD, DL.gLen, DL.gTuple, DL.sv, DL.truth, DL.eCall, DL.eArgs, DL.callF, DL.slotsOf, DL.countIo, DL.ioOf, DL.borsOf, DL.borOk, DL.back1, DL.putBack, DL.nolR, DL.nolM, DL.nolO, DL.fin, DL.ioM, DL.M.toD, DL.bind_ok, DL.bind_no, Option.bind_some, Option.bind_none, Option.map_some, Option.map_none, List.length_cons, List.length_nil, List.length_append, List.length_map, List.append_nil, List.nil_append, List.cons_append, List.map_cons, List.map_nil, List.replicate, List.getElem?_cons_zero, List.getElem?_cons_succ, List.getElem?_nil, List.set_cons_zero, List.set_cons_succ, Nat.zero_add, Nat.add_zero, Nat.reduceAdd, Nat.reduceSub, if_true, if_false, Bool.not_true, Bool.not_false, Bool.and_self, Bool.and_true, Bool.true_and, Bool.or_true, Bool.true_or, Bool.false_or, Bool.or_false, List.isEmpty_nil, List.isEmpty_cons, if_pos, reduceIte, Bool.false_eq_true, eq_self, and_self, and_true, true_and, ↓reduceIte, Nat.le_refl, reduceCtorEq, Nat.sub_self, List.all_cons, List.all_nil, Bool.false_and, Nat.zero_le, Nat.reduceLeDiff, Nat.reduceEqDiff, Int.cast_ofNat_Int, Int.reduceLE, Int.reduceLT, Int.reduceEq, Int.reduceNe, Int.reduceAdd, Int.reduceSub, Int.reduceMul, Int.reduceNeg, Int.reduceToNat, decide_true, decide_false, ne_eq, not_true_eq_false, not_false_eq_true]
  have j := join_ok g l w0 w1 d0 d1
  refine (run_of (x := .v (.str (textS w d ps))) (e := [.v (treeD w d ps), .v (.int w), .v (.int d), .v (.tup (ps.map pD)), .o false false (.l (.str (headS w d) :: ps.map fun p => .str (rowS p))), s5, s6, s7]) ?_).trans rfl
  refine (sSeq_nx s0).trans ((sSeq_nx s1).trans ((sSeq_nx s2).trans ((sSeq_nx s3).trans ?_)))
  simp only [j, DL.le_size, DL.lt_size, Int.reducePow, Nat.reducePow, Int.reduceLT, or_true, true_or, or_false, false_or, or_self, DL.k_NoneType_int, DL.k_NoneType_str, DL.k_NoneType_tuple, DL.k_NoneType_list, DL.k_NoneType_bool, DL.k_bool_int, DL.k_bool_str, DL.k_bool_tuple, DL.k_bool_list, DL.k_bool_bool, DL.k_int_int, DL.k_int_str, DL.k_int_tuple, DL.k_int_list, DL.k_int_bool, DL.k_str_int, DL.k_str_str, DL.k_str_tuple, DL.k_str_list, DL.k_str_bool, DL.k_list_int, DL.k_list_str, DL.k_list_tuple, DL.k_list_list, DL.k_list_bool, DL.k_tuple_int, DL.k_tuple_str, DL.k_tuple_tuple, DL.k_tuple_list, DL.k_tuple_bool, DL.k_dict_int, DL.k_dict_str, DL.k_dict_tuple, DL.k_dict_list, DL.k_dict_bool, DL.runDef, DL.sSeq, DL.sIf, DL.sE, DL.sSet, DL.sRet, DL.sNx, DL.sPar, DL.assign, DL.free_z, DL.free_s, DL.okB_u, DL.okB_v, DL.okB_o, DL.fresh, DL.toD, DL.peek, DL.peeks, DL.giv, DL.eC, DL.eVar, DL.eUn, DL.eBin, DL.eT, DL.eB, DL.tNotE, DL.tAndE, DL.tOrE, DL.eIf, DL.eNot, DL.eAnd, DL.eOr, DL.eChain, DL.eDs, DL.eTup, DL.eLst, DL.eVs, DL.eBi, DL.eDct, DL.eKs, DL.mergeD, DL.sPut, DL.sFor, DL.sAsg, DL.tgN, DL.tgT, DL.tgs, DL.eMut, DL.gAppend, DL.eM1, DL.eFmt, DL.eJs, DL.eSl, DL.ePart, DL.gIx, DL.keyD, DL.gAdd, DL.gSub, DL.gMul, DL.gMod, DL.gDiv, DL.gPow, DL.gLt, DL.gLe, DL.gGt, DL.gGe, DL.gIs, DL.gIsNot, DL.isNon, DL.gIsi, DL.tyD, DL.gLen, DL.gTuple, DL.sv, DL.truth, DL.eCall, DL.eArgs, DL.callF, DL.slotsOf, DL.countIo, DL.ioOf, DL.borsOf, DL.borOk, DL.back1, DL.putBack, DL.nolR, DL.nolM, DL.nolO, DL.fin, DL.ioM, DL.M.toD, DL.bind_ok, DL.bind_no, Option.bind_some, Option.bind_none, Option.map_some, Option.map_none, List.length_cons, List.length_nil, List.length_append, List.length_map, List.append_nil, List.nil_append, List.cons_append, List.map_cons, List.map_nil, List.replicate, List.getElem?_cons_zero, List.getElem?_cons_succ, List.getElem?_nil, List.set_cons_zero, List.set_cons_succ, Nat.zero_add, Nat.add_zero, Nat.reduceAdd, Nat.reduceSub, if_true, if_false, Bool.not_true, Bool.not_false, Bool.and_self, Bool.and_true, Bool.true_and, Bool.or_true, Bool.true_or, Bool.false_or, Bool.or_false, List.isEmpty_nil, List.isEmpty_cons, if_pos, reduceIte, Bool.false_eq_true, eq_self, and_self, and_true, true_and, ↓reduceIte, Nat.le_refl, reduceCtorEq, Nat.sub_self, List.all_cons, List.all_nil, Bool.false_and, Nat.zero_le, Nat.reduceLeDiff, Nat.reduceEqDiff, Int.cast_ofNat_Int, Int.reduceLE, Int.reduceLT, Int.reduceEq, Int.reduceNe, Int.reduceAdd, Int.reduceSub, Int.reduceMul, Int.reduceNeg, Int.reduceToNat, decide_true, decide_false, ne_eq, not_true_eq_false, not_false_eq_true]
end K05

namespace K05
open DL PySem L2
/-! the text cut again -/
def inR (k : Nat) : Prop := k = 32 ∨ k = 45 ∨ 48 ≤ k ∧ k ≤ 57 ∨ 97 ≤ k ∧ k ≤ 122
theorem num_signs : ∀ n : Fin 61, ((numS (n.val : Int)).cps.toList.all fun c => decide (48 ≤ c) && decide (c ≤ 57)) = true := by decide +kernel
theorem num_some : ∀ n : Fin 61, decide (1 ≤ (numS (n.val : Int)).length) = true := by decide +kernel
theorem numS_signs {i : Int} (h0 : 0 ≤ i) (h1 : i ≤ 60) : ∀ c ∈ (numS i).cps.toList, 48 ≤ c ∧ c ≤ 57 := by
  have := num_signs ⟨i.toNat, by omega⟩
  rw [show ((⟨i.toNat, by omega⟩ : Fin 61).val : Int) = i from Int.toNat_of_nonneg h0] at this
  intro c hc
  have := List.all_eq_true.mp this c hc
  rw [Bool.and_eq_true] at this
  exact ⟨of_decide_eq_true this.1, of_decide_eq_true this.2⟩
theorem numS_some {i : Int} (h0 : 0 ≤ i) (h1 : i ≤ 60) : 1 ≤ (numS i).length := by
  have := num_some ⟨i.toNat, by omega⟩
  rw [show ((⟨i.toNat, by omega⟩ : Fin 61).val : Int) = i from Int.toNat_of_nonneg h0] at this
  exact of_decide_eq_true this
theorem num_back {i : Int} (h0 : 0 ≤ i) (h1 : i ≤ 60) : F_number_of [.v (.str (numS i))] = .ok (.v (.int i)) none := by
  have := isI_eq (num_small ⟨i.toNat, by omega⟩)
  rwa [show ((⟨i.toNat, by omega⟩ : Fin 61).val : Int) = i from Int.toNat_of_nonneg h0] at this
theorem sp_tl : TL.tl (Str.ofString " ") = [32] := by decide +kernel
theorem nl_tl : TL.tl (Str.ofString "\n") = [10] := by decide +kernel
theorem dash_tl : TL.tl (Str.ofString "-") = [45] := by decide +kernel
theorem tree_tl : TL.tl (Str.ofString "tree") = [116, 114, 101, 101] := by decide +kernel
theorem wd_signs {p : Prs} (o : PrsOk p) : ∀ c ∈ (wd p).cps.toList, c = 45 ∨ 97 ≤ c ∧ c ≤ 122 := by
  unfold wd
  split
  · intro c hc
    have hc : c ∈ TL.tl (Str.ofString "-") := hc
    rw [dash_tl] at hc
    exact .inl (List.mem_singleton.mp hc)
  · rename_i h
    exact fun c hc => .inr ((o.ab.resolve_left h).2.2 c hc)
theorem wd_some {p : Prs} (o : PrsOk p) : 1 ≤ (wd p).length := by
  unfold wd
  split
  · rw [dash_len]; omega
  · rename_i h
    exact (o.ab.resolve_left h).1
theorem join3 (s a b c : Str) : Txt.join s [a, b, c] = a ++ s ++ b ++ s ++ c := by
  rw [TL.join_eq]
  show a ++ s ++ (b ++ s ++ c) = _
  rw [Str.append_assoc (a ++ s ++ b) s c, Str.append_assoc (a ++ s) b (s ++ c), Str.append_assoc b s c]
theorem row_join (p : Prs) : rowS p = Txt.join (Str.ofString " ") [p.nm, wd p, numS p.tk] := by
  rw [join3]
  rfl
theorem tree_sp : Str.ofString "tree " = Str.ofString "tree" ++ Str.ofString " " := by decide +kernel
theorem head_join (w d : Int) : headS w d = Txt.join (Str.ofString " ") [Str.ofString "tree", numS w, numS d] := by
  rw [join3]
  unfold headS
  rw [tree_sp]
theorem no32 {p : Prs} (o : PrsOk p) : ∀ x ∈ [p.nm, wd p, numS p.tk], 32 ∉ TL.tl x := by
  intro x hx hc
  have t0 := o.t0
  rcases List.mem_cons.mp hx with rfl | hx
  · have := o.nm.2.2 32 hc; omega
  rcases List.mem_cons.mp hx with rfl | hx
  · have := wd_signs o 32 hc; omega
  · rw [List.mem_singleton.mp hx] at hc
    have := numS_signs (by omega) o.t1 32 hc; omega
theorem sp_all : (Str.ofString " ").cps.all (· < 256) = true := by decide +kernel
theorem nl_all : (Str.ofString "\n").cps.all (· < 256) = true := by decide +kernel
theorem row_split {p : Prs} (o : PrsOk p) : Txt.split (rowS p) (Str.ofString " ") = [p.nm, wd p, numS p.tk] := by
  rw [row_join]
  exact TL.split_join sp_tl sp_all (by simp) (no32 o)
theorem head_split {w d : Int} (w0 : 1 ≤ w) (w1 : w ≤ 60) (d0 : 0 ≤ d) (d1 : d ≤ 4) : Txt.split (headS w d) (Str.ofString " ") = [Str.ofString "tree", numS w, numS d] := by
  rw [head_join]
  refine TL.split_join sp_tl sp_all (by simp) fun x hx hc => ?_
  rcases List.mem_cons.mp hx with rfl | hx
  · rw [tree_tl] at hc; simp at hc
  rcases List.mem_cons.mp hx with rfl | hx
  · have := numS_signs (by omega) w1 32 hc; omega
  · rw [List.mem_singleton.mp hx] at hc
    have := numS_signs d0 (by omega) 32 hc; omega
theorem tl_app (a b : Str) : TL.tl (a ++ b) = TL.tl a ++ TL.tl b := TL.tl_append a b
theorem rows_split {w d : Int} {ps : List Prs} (g : Goods ps) (w0 : 1 ≤ w) (w1 : w ≤ 60) (d0 : 0 ≤ d) (d1 : d ≤ 4) : Txt.split (textS w d ps) (Str.ofString "\n") = headS w d :: ps.map rowS := by
  refine TL.split_join nl_tl nl_all (by simp) fun x hx hc => ?_
  rcases List.mem_cons.mp hx with rfl | hx
  · unfold headS at hc
    rw [tree_sp, tl_app, tl_app, tl_app, tl_app, tree_tl, sp_tl] at hc
    have a := fun h => numS_signs (i := w) (by omega) w1 10 h
    have b := fun h => numS_signs d0 (by omega : d ≤ 60) 10 h
    simp only [List.mem_append] at hc
    rcases hc with (((hc | hc) | hc) | hc) | hc
    · simp at hc
    · simp at hc
    · have := a hc; omega
    · simp at hc
    · have := b hc; omega
  · obtain ⟨p, hp, rfl⟩ := List.mem_map.mp hx
    have o := g.each p hp
    have t0 := o.t0
    unfold rowS at hc
    rw [tl_app, tl_app, tl_app, tl_app, sp_tl] at hc
    simp only [List.mem_append] at hc
    rcases hc with (((hc | hc) | hc) | hc) | hc
    · have := o.nm.2.2 10 hc; omega
    · simp at hc
    · have := wd_signs o 10 hc; omega
    · simp at hc
    · have := numS_signs (by omega) o.t1 10 hc; omega
end K05

namespace K05
open DL PySem L2
theorem words_ok {r a b c : Str} (h : Txt.split r (Str.ofString " ") = [a, b, c]) (hl : r.length + 2 ≤ sizeLine) (ha : 1 ≤ a.length) (hb : 1 ≤ b.length) (hc : 1 ≤ c.length) : F_words_of [.v (.str r)] = .ok (.m (.l [.str a, .str b, .str c])) none := by
  have sl : ((Str.ofString " ").length == 0) = false := by rw [sp_len]; rfl
  have sp : gSplit r (.str (Str.ofString " ")) = some (.m (.l [.str a, .str b, .str c])) := by
    unfold gSplit
    dsimp only
    rw [if_pos ⟨sl, hl⟩, h]
    rfl
  have ne : ∀ x : Str, 1 ≤ x.length → Str.ofString "" ≠ x := fun x hx e => by
    rw [← e, nil_len] at hx
    omega
  have i0 : inD (.str (Str.ofString "")) (.lst [.str a, .str b, .str c]) = some false := by
    have := in_strs (Str.ofString "") [a, b, c]
    rw [decide_eq_false (by simp only [List.mem_cons, List.not_mem_nil, or_false, not_or]; exact ⟨ne a ha, ne b hb, ne c hc⟩)] at this
    exact this
  simp only [F_words_of, b_words_of, sp, gIn, i0, DL.le_size, DL.lt_size, Int.reducePow, Nat.reducePow, Int.reduceLT, or_true, true_or, or_false, false_or, or_self, DL.k_NoneType_int, DL.k_NoneType_str, DL.k_NoneType_tuple, DL.k_NoneType_list, DL.k_NoneType_bool, DL.k_bool_int, DL.k_bool_str, DL.k_bool_tuple, DL.k_bool_list, DL.k_bool_bool, DL.k_int_int, DL.k_int_str, DL.k_int_tuple, DL.k_int_list, DL.k_int_bool, DL.k_str_int, DL.k_str_str, DL.k_str_tuple, DL.k_str_list, DL.k_str_bool, DL.k_list_int, DL.k_list_str, DL.k_list_tuple, DL.k_list_list, DL.k_list_bool, DL.k_tuple_int, DL.k_tuple_str, DL.k_tuple_tuple, DL.k_tuple_list, DL.k_tuple_bool, DL.k_dict_int, DL.k_dict_str, DL.k_dict_tuple, DL.k_dict_list, DL.k_dict_bool, DL.runDef, DL.sSeq, DL.sIf, DL.sE, DL.sSet, DL.sRet, DL.sNx, DL.sPar, DL.assign, DL.free_z, DL.free_s, DL.okB_u, DL.okB_v, DL.okB_o, DL.fresh, DL.toD, DL.peek, DL.peeks, DL.giv, DL.eC, DL.eVar, DL.eUn, DL.eBin, DL.eT, DL.eB, DL.tNotE, DL.tAndE, DL.tOrE, DL.eIf, DL.eNot, DL.eAnd, DL.eOr, DL.eChain, DL.eDs, DL.eTup, DL.eLst, DL.eVs, DL.eBi, DL.eDct, DL.eKs, DL.mergeD, DL.sPut, DL.sFor, DL.sAsg, DL.tgN, DL.tgT, DL.tgs, DL.eMut, DL.gAppend, DL.eM1, DL.eFmt, DL.eJs, DL.eSl, DL.ePart, DL.gIx, DL.keyD, DL.gAdd, DL.gSub, DL.gMul, DL.gMod, DL.gDiv, DL.gPow, DL.gLt, DL.gLe, DL.gGt, DL.gGe, DL.gIs, DL.gIsNot, DL.isNon, DL.gIsi, DL.tyD, DL.gLen, DL.gTuple, DL.sv, DL.truth, DL.eCall, DL.eArgs, DL.callF, DL.slotsOf, DL.countIo, DL.ioOf, DL.borsOf, DL.borOk, DL.back1, DL.putBack, DL.nolR, DL.nolM, DL.nolO, DL.fin, DL.ioM, DL.M.toD, DL.bind_ok, DL.bind_no, Option.bind_some, Option.bind_none, Option.map_some, Option.map_none, List.length_cons, List.length_nil, List.length_append, List.length_map, List.append_nil, List.nil_append, List.cons_append, List.map_cons, List.map_nil, List.replicate, List.getElem?_cons_zero, List.getElem?_cons_succ, List.getElem?_nil, List.set_cons_zero, List.set_cons_succ, Nat.zero_add, Nat.add_zero, Nat.reduceAdd, Nat.reduceSub, if_true, if_false, Bool.not_true, Bool.not_false, Bool.and_self, Bool.and_true, Bool.true_and, Bool.or_true, Bool.true_or, Bool.false_or, Bool.or_false, List.isEmpty_nil, List.isEmpty_cons, if_pos, reduceIte, Bool.false_eq_true, eq_self, and_self, and_true, true_and, ↓reduceIte, Nat.le_refl, reduceCtorEq, Nat.sub_self, List.all_cons, List.all_nil, Bool.false_and, Nat.zero_le, Nat.reduceLeDiff, Nat.reduceEqDiff, Int.cast_ofNat_Int, Int.reduceLE, Int.reduceLT, Int.reduceEq, Int.reduceNe, Int.reduceAdd, Int.reduceSub, Int.reduceMul, Int.reduceNeg, Int.reduceToNat, decide_true, decide_false, ne_eq, not_true_eq_false, not_false_eq_true]
theorem wordsin_ok {r a b c : Str} (n : Int) (h : Txt.split r (Str.ofString " ") = [a, b, c]) (hl : r.length + 2 ≤ sizeLine) (ha : 1 ≤ a.length) (hb : 1 ≤ b.length) (hc : 1 ≤ c.length) : F_words_in [.v (.int n), .v (.str r)] = .ok (.m (.l [.str a, .str b, .str c])) none := by
  have w := words_ok h hl ha hb hc
  simp only [F_words_in, b_words_in, w, DL.le_size, DL.lt_size, Int.reducePow, Nat.reducePow, Int.reduceLT, or_true, true_or, or_false, false_or, or_self, DL.k_NoneType_int, DL.k_NoneType_str, DL.k_NoneType_tuple, DL.k_NoneType_list, DL.k_NoneType_bool, DL.k_bool_int, DL.k_bool_str, DL.k_bool_tuple, DL.k_bool_list, DL.k_bool_bool, DL.k_int_int, DL.k_int_str, DL.k_int_tuple, DL.k_int_list, DL.k_int_bool, DL.k_str_int, DL.k_str_str, DL.k_str_tuple, DL.k_str_list, DL.k_str_bool, DL.k_list_int, DL.k_list_str, DL.k_list_tuple, DL.k_list_list, DL.k_list_bool, DL.k_tuple_int, DL.k_tuple_str, DL.k_tuple_tuple, DL.k_tuple_list, DL.k_tuple_bool, DL.k_dict_int, DL.k_dict_str, DL.k_dict_tuple, DL.k_dict_list, DL.k_dict_bool, DL.runDef, DL.sSeq, DL.sIf, DL.sE, DL.sSet, DL.sRet, DL.sNx, DL.sPar, DL.assign, DL.free_z, DL.free_s, DL.okB_u, DL.okB_v, DL.okB_o, DL.fresh, DL.toD, DL.peek, DL.peeks, DL.giv, DL.eC, DL.eVar, DL.eUn, DL.eBin, DL.eT, DL.eB, DL.tNotE, DL.tAndE, DL.tOrE, DL.eIf, DL.eNot, DL.eAnd, DL.eOr, DL.eChain, DL.eDs, DL.eTup, DL.eLst, DL.eVs, DL.eBi, DL.eDct, DL.eKs, DL.mergeD, DL.sPut, DL.sFor, DL.sAsg, DL.tgN, DL.tgT, DL.tgs, DL.eMut, DL.gAppend, DL.eM1, DL.eFmt, DL.eJs, DL.eSl, DL.ePart, DL.gIx, DL.keyD, DL.gAdd, DL.gSub, DL.gMul, DL.gMod, DL.gDiv, DL.gPow, DL.gLt, DL.gLe, DL.gGt, DL.gGe, DL.gIs, DL.gIsNot, DL.isNon, DL.gIsi, DL.tyD, DL.gLen, DL.gTuple, DL.sv, DL.truth, DL.eCall, DL.eArgs, DL.callF, DL.slotsOf, DL.countIo, DL.ioOf, DL.borsOf, DL.borOk, DL.back1, DL.putBack, DL.nolR, DL.nolM, DL.nolO, DL.fin, DL.ioM, DL.M.toD, DL.bind_ok, DL.bind_no, Option.bind_some, Option.bind_none, Option.map_some, Option.map_none, List.length_cons, List.length_nil, List.length_append, List.length_map, List.append_nil, List.nil_append, List.cons_append, List.map_cons, List.map_nil, List.replicate, List.getElem?_cons_zero, List.getElem?_cons_succ, List.getElem?_nil, List.set_cons_zero, List.set_cons_succ, Nat.zero_add, Nat.add_zero, Nat.reduceAdd, Nat.reduceSub, if_true, if_false, Bool.not_true, Bool.not_false, Bool.and_self, Bool.and_true, Bool.true_and, Bool.or_true, Bool.true_or, Bool.false_or, Bool.or_false, List.isEmpty_nil, List.isEmpty_cons, if_pos, reduceIte, Bool.false_eq_true, eq_self, and_self, and_true, true_and, ↓reduceIte, Nat.le_refl, reduceCtorEq, Nat.sub_self, List.all_cons, List.all_nil, Bool.false_and, Nat.zero_le, Nat.reduceLeDiff, Nat.reduceEqDiff, Int.cast_ofNat_Int, Int.reduceLE, Int.reduceLT, Int.reduceEq, Int.reduceNe, Int.reduceAdd, Int.reduceSub, Int.reduceMul, Int.reduceNeg, Int.reduceToNat, decide_true, decide_false, ne_eq, not_true_eq_false, not_false_eq_true]
theorem needw_ok (n : Int) : F_need_words [.v (.int n), .v (.lst [.bl true, .bl true, .bl true]), .v (.int 3)] = .ok (.v .non) none := by
  simp only [F_need_words, b_need_words, f0_need_words, DL.iEnum, enumD, forL, DL.le_size, DL.lt_size, Int.reducePow, Nat.reducePow, Int.reduceLT, or_true, true_or, or_false, false_or, or_self, DL.k_NoneType_int, DL.k_NoneType_str, DL.k_NoneType_tuple, DL.k_NoneType_list, DL.k_NoneType_bool, DL.k_bool_int, DL.k_bool_str, DL.k_bool_tuple, DL.k_bool_list, DL.k_bool_bool, DL.k_int_int, DL.k_int_str, DL.k_int_tuple, DL.k_int_list, DL.k_int_bool, DL.k_str_int, DL.k_str_str, DL.k_str_tuple, DL.k_str_list, DL.k_str_bool, DL.k_list_int, DL.k_list_str, DL.k_list_tuple, DL.k_list_list, DL.k_list_bool, DL.k_tuple_int, DL.k_tuple_str, DL.k_tuple_tuple, DL.k_tuple_list, DL.k_tuple_bool, DL.k_dict_int, DL.k_dict_str, DL.k_dict_tuple, DL.k_dict_list, DL.k_dict_bool, DL.runDef, DL.sSeq, DL.sIf, DL.sE, DL.sSet, DL.sRet, DL.sNx, DL.sPar, DL.assign, DL.free_z, DL.free_s, DL.okB_u, DL.okB_v, DL.okB_o, DL.fresh, DL.toD, DL.peek, DL.peeks, DL.giv, DL.eC, DL.eVar, DL.eUn, DL.eBin, DL.eT, DL.eB, DL.tNotE, DL.tAndE, DL.tOrE, DL.eIf, DL.eNot, DL.eAnd, DL.eOr, DL.eChain, DL.eDs, DL.eTup, DL.eLst, DL.eVs, DL.eBi, DL.eDct, DL.eKs, DL.mergeD, DL.sPut, DL.sFor, DL.sAsg, DL.tgN, DL.tgT, DL.tgs, DL.eMut, DL.gAppend, DL.eM1, DL.eFmt, DL.eJs, DL.eSl, DL.ePart, DL.gIx, DL.keyD, DL.gAdd, DL.gSub, DL.gMul, DL.gMod, DL.gDiv, DL.gPow, DL.gLt, DL.gLe, DL.gGt, DL.gGe, DL.gIs, DL.gIsNot, DL.isNon, DL.gIsi, DL.tyD, DL.gLen, DL.gTuple, DL.sv, DL.truth, DL.eCall, DL.eArgs, DL.callF, DL.slotsOf, DL.countIo, DL.ioOf, DL.borsOf, DL.borOk, DL.back1, DL.putBack, DL.nolR, DL.nolM, DL.nolO, DL.fin, DL.ioM, DL.M.toD, DL.bind_ok, DL.bind_no, Option.bind_some, Option.bind_none, Option.map_some, Option.map_none, List.length_cons, List.length_nil, List.length_append, List.length_map, List.append_nil, List.nil_append, List.cons_append, List.map_cons, List.map_nil, List.replicate, List.getElem?_cons_zero, List.getElem?_cons_succ, List.getElem?_nil, List.set_cons_zero, List.set_cons_succ, Nat.zero_add, Nat.add_zero, Nat.reduceAdd, Nat.reduceSub, if_true, if_false, Bool.not_true, Bool.not_false, Bool.and_self, Bool.and_true, Bool.true_and, Bool.or_true, Bool.true_or, Bool.false_or, Bool.or_false, List.isEmpty_nil, List.isEmpty_cons, if_pos, reduceIte, Bool.false_eq_true, eq_self, and_self, and_true, true_and, ↓reduceIte, Nat.le_refl, reduceCtorEq, Nat.sub_self, List.all_cons, List.all_nil, Bool.false_and, Nat.zero_le, Nat.reduceLeDiff, Nat.reduceEqDiff, Int.cast_ofNat_Int, Int.reduceLE, Int.reduceLT, Int.reduceEq, Int.reduceNe, Int.reduceAdd, Int.reduceSub, Int.reduceMul, Int.reduceNeg, Int.reduceToNat, decide_true, decide_false, ne_eq, not_true_eq_false, not_false_eq_true]
theorem int_eq' (a b : Int) : gEq (.int a) (.int b) = some (.v (.bl (decide (a = b)))) := int_eq a b
theorem tree_str : PyData.strOk (Str.ofString "tree") = true := by decide +kernel
theorem dash_str : PyData.strOk (Str.ofString "-") = true := by decide +kernel
theorem hw1 : F_head_word_fits [.v (.int 1), .v (.str (Str.ofString "tree")), .v (.int 4)] = .ok (.v (.bl true)) none := by
  have e := str_eq tree_str tree_str
  simp only [F_head_word_fits, b_head_word_fits, int_eq', e, DL.le_size, DL.lt_size, Int.reducePow, Nat.reducePow, Int.reduceLT, or_true, true_or, or_false, false_or, or_self, DL.k_NoneType_int, DL.k_NoneType_str, DL.k_NoneType_tuple, DL.k_NoneType_list, DL.k_NoneType_bool, DL.k_bool_int, DL.k_bool_str, DL.k_bool_tuple, DL.k_bool_list, DL.k_bool_bool, DL.k_int_int, DL.k_int_str, DL.k_int_tuple, DL.k_int_list, DL.k_int_bool, DL.k_str_int, DL.k_str_str, DL.k_str_tuple, DL.k_str_list, DL.k_str_bool, DL.k_list_int, DL.k_list_str, DL.k_list_tuple, DL.k_list_list, DL.k_list_bool, DL.k_tuple_int, DL.k_tuple_str, DL.k_tuple_tuple, DL.k_tuple_list, DL.k_tuple_bool, DL.k_dict_int, DL.k_dict_str, DL.k_dict_tuple, DL.k_dict_list, DL.k_dict_bool, DL.runDef, DL.sSeq, DL.sIf, DL.sE, DL.sSet, DL.sRet, DL.sNx, DL.sPar, DL.assign, DL.free_z, DL.free_s, DL.okB_u, DL.okB_v, DL.okB_o, DL.fresh, DL.toD, DL.peek, DL.peeks, DL.giv, DL.eC, DL.eVar, DL.eUn, DL.eBin, DL.eT, DL.eB, DL.tNotE, DL.tAndE, DL.tOrE, DL.eIf, DL.eNot, DL.eAnd, DL.eOr, DL.eChain, DL.eDs, DL.eTup, DL.eLst, DL.eVs, DL.eBi, DL.eDct, DL.eKs, DL.mergeD, DL.sPut, DL.sFor, DL.sAsg, DL.tgN, DL.tgT, DL.tgs, DL.eMut, DL.gAppend, DL.eM1, DL.eFmt, DL.eJs, DL.eSl, DL.ePart, DL.gIx, DL.keyD, DL.gAdd, DL.gSub, DL.gMul, DL.gMod, DL.gDiv, DL.gPow, DL.gLt, DL.gLe, DL.gGt, DL.gGe, DL.gIs, DL.gIsNot, DL.isNon, DL.gIsi, DL.tyD, DL.gLen, DL.gTuple, DL.sv, DL.truth, DL.eCall, DL.eArgs, DL.callF, DL.slotsOf, DL.countIo, DL.ioOf, DL.borsOf, DL.borOk, DL.back1, DL.putBack, DL.nolR, DL.nolM, DL.nolO, DL.fin, DL.ioM, DL.M.toD, DL.bind_ok, DL.bind_no, Option.bind_some, Option.bind_none, Option.map_some, Option.map_none, List.length_cons, List.length_nil, List.length_append, List.length_map, List.append_nil, List.nil_append, List.cons_append, List.map_cons, List.map_nil, List.replicate, List.getElem?_cons_zero, List.getElem?_cons_succ, List.getElem?_nil, List.set_cons_zero, List.set_cons_succ, Nat.zero_add, Nat.add_zero, Nat.reduceAdd, Nat.reduceSub, if_true, if_false, Bool.not_true, Bool.not_false, Bool.and_self, Bool.and_true, Bool.true_and, Bool.or_true, Bool.true_or, Bool.false_or, Bool.or_false, List.isEmpty_nil, List.isEmpty_cons, if_pos, reduceIte, Bool.false_eq_true, eq_self, and_self, and_true, true_and, ↓reduceIte, Nat.le_refl, reduceCtorEq, Nat.sub_self, List.all_cons, List.all_nil, Bool.false_and, Nat.zero_le, Nat.reduceLeDiff, Nat.reduceEqDiff, Int.cast_ofNat_Int, Int.reduceLE, Int.reduceLT, Int.reduceEq, Int.reduceNe, Int.reduceAdd, Int.reduceSub, Int.reduceMul, Int.reduceNeg, Int.reduceToNat, decide_true, decide_false, ne_eq, not_true_eq_false, not_false_eq_true]
theorem hw2 {w : Int} (w0 : 1 ≤ w) (w1 : w ≤ 60) : F_head_word_fits [.v (.int 2), .v (.str (numS w)), .v (.int 4)] = .ok (.v (.bl true)) none := by
  have nb := num_back (i := w) (by omega) w1
  have wk := wait_int w
  simp only [F_head_word_fits, b_head_word_fits, int_eq', nb, wk, w0, w1, DL.le_size, DL.lt_size, Int.reducePow, Nat.reducePow, Int.reduceLT, or_true, true_or, or_false, false_or, or_self, DL.k_NoneType_int, DL.k_NoneType_str, DL.k_NoneType_tuple, DL.k_NoneType_list, DL.k_NoneType_bool, DL.k_bool_int, DL.k_bool_str, DL.k_bool_tuple, DL.k_bool_list, DL.k_bool_bool, DL.k_int_int, DL.k_int_str, DL.k_int_tuple, DL.k_int_list, DL.k_int_bool, DL.k_str_int, DL.k_str_str, DL.k_str_tuple, DL.k_str_list, DL.k_str_bool, DL.k_list_int, DL.k_list_str, DL.k_list_tuple, DL.k_list_list, DL.k_list_bool, DL.k_tuple_int, DL.k_tuple_str, DL.k_tuple_tuple, DL.k_tuple_list, DL.k_tuple_bool, DL.k_dict_int, DL.k_dict_str, DL.k_dict_tuple, DL.k_dict_list, DL.k_dict_bool, DL.runDef, DL.sSeq, DL.sIf, DL.sE, DL.sSet, DL.sRet, DL.sNx, DL.sPar, DL.assign, DL.free_z, DL.free_s, DL.okB_u, DL.okB_v, DL.okB_o, DL.fresh, DL.toD, DL.peek, DL.peeks, DL.giv, DL.eC, DL.eVar, DL.eUn, DL.eBin, DL.eT, DL.eB, DL.tNotE, DL.tAndE, DL.tOrE, DL.eIf, DL.eNot, DL.eAnd, DL.eOr, DL.eChain, DL.eDs, DL.eTup, DL.eLst, DL.eVs, DL.eBi, DL.eDct, DL.eKs, DL.mergeD, DL.sPut, DL.sFor, DL.sAsg, DL.tgN, DL.tgT, DL.tgs, DL.eMut, DL.gAppend, DL.eM1, DL.eFmt, DL.eJs, DL.eSl, DL.ePart, DL.gIx, DL.keyD, DL.gAdd, DL.gSub, DL.gMul, DL.gMod, DL.gDiv, DL.gPow, DL.gLt, DL.gLe, DL.gGt, DL.gGe, DL.gIs, DL.gIsNot, DL.isNon, DL.gIsi, DL.tyD, DL.gLen, DL.gTuple, DL.sv, DL.truth, DL.eCall, DL.eArgs, DL.callF, DL.slotsOf, DL.countIo, DL.ioOf, DL.borsOf, DL.borOk, DL.back1, DL.putBack, DL.nolR, DL.nolM, DL.nolO, DL.fin, DL.ioM, DL.M.toD, DL.bind_ok, DL.bind_no, Option.bind_some, Option.bind_none, Option.map_some, Option.map_none, List.length_cons, List.length_nil, List.length_append, List.length_map, List.append_nil, List.nil_append, List.cons_append, List.map_cons, List.map_nil, List.replicate, List.getElem?_cons_zero, List.getElem?_cons_succ, List.getElem?_nil, List.set_cons_zero, List.set_cons_succ, Nat.zero_add, Nat.add_zero, Nat.reduceAdd, Nat.reduceSub, if_true, if_false, Bool.not_true, Bool.not_false, Bool.and_self, Bool.and_true, Bool.true_and, Bool.or_true, Bool.true_or, Bool.false_or, Bool.or_false, List.isEmpty_nil, List.isEmpty_cons, if_pos, reduceIte, Bool.false_eq_true, eq_self, and_self, and_true, true_and, ↓reduceIte, Nat.le_refl, reduceCtorEq, Nat.sub_self, List.all_cons, List.all_nil, Bool.false_and, Nat.zero_le, Nat.reduceLeDiff, Nat.reduceEqDiff, Int.cast_ofNat_Int, Int.reduceLE, Int.reduceLT, Int.reduceEq, Int.reduceNe, Int.reduceAdd, Int.reduceSub, Int.reduceMul, Int.reduceNeg, Int.reduceToNat, decide_true, decide_false, ne_eq, not_true_eq_false, not_false_eq_true]
theorem hw3 {d : Int} (d0 : 0 ≤ d) (d1 : d ≤ 4) : F_head_word_fits [.v (.int 3), .v (.str (numS d)), .v (.int 4)] = .ok (.v (.bl true)) none := by
  have nb := num_back (i := d) d0 (by omega)
  have dk := among_int d 0 4
  simp only [F_head_word_fits, b_head_word_fits, int_eq', nb, dk, d0, d1, DL.le_size, DL.lt_size, Int.reducePow, Nat.reducePow, Int.reduceLT, or_true, true_or, or_false, false_or, or_self, DL.k_NoneType_int, DL.k_NoneType_str, DL.k_NoneType_tuple, DL.k_NoneType_list, DL.k_NoneType_bool, DL.k_bool_int, DL.k_bool_str, DL.k_bool_tuple, DL.k_bool_list, DL.k_bool_bool, DL.k_int_int, DL.k_int_str, DL.k_int_tuple, DL.k_int_list, DL.k_int_bool, DL.k_str_int, DL.k_str_str, DL.k_str_tuple, DL.k_str_list, DL.k_str_bool, DL.k_list_int, DL.k_list_str, DL.k_list_tuple, DL.k_list_list, DL.k_list_bool, DL.k_tuple_int, DL.k_tuple_str, DL.k_tuple_tuple, DL.k_tuple_list, DL.k_tuple_bool, DL.k_dict_int, DL.k_dict_str, DL.k_dict_tuple, DL.k_dict_list, DL.k_dict_bool, DL.runDef, DL.sSeq, DL.sIf, DL.sE, DL.sSet, DL.sRet, DL.sNx, DL.sPar, DL.assign, DL.free_z, DL.free_s, DL.okB_u, DL.okB_v, DL.okB_o, DL.fresh, DL.toD, DL.peek, DL.peeks, DL.giv, DL.eC, DL.eVar, DL.eUn, DL.eBin, DL.eT, DL.eB, DL.tNotE, DL.tAndE, DL.tOrE, DL.eIf, DL.eNot, DL.eAnd, DL.eOr, DL.eChain, DL.eDs, DL.eTup, DL.eLst, DL.eVs, DL.eBi, DL.eDct, DL.eKs, DL.mergeD, DL.sPut, DL.sFor, DL.sAsg, DL.tgN, DL.tgT, DL.tgs, DL.eMut, DL.gAppend, DL.eM1, DL.eFmt, DL.eJs, DL.eSl, DL.ePart, DL.gIx, DL.keyD, DL.gAdd, DL.gSub, DL.gMul, DL.gMod, DL.gDiv, DL.gPow, DL.gLt, DL.gLe, DL.gGt, DL.gGe, DL.gIs, DL.gIsNot, DL.isNon, DL.gIsi, DL.tyD, DL.gLen, DL.gTuple, DL.sv, DL.truth, DL.eCall, DL.eArgs, DL.callF, DL.slotsOf, DL.countIo, DL.ioOf, DL.borsOf, DL.borOk, DL.back1, DL.putBack, DL.nolR, DL.nolM, DL.nolO, DL.fin, DL.ioM, DL.M.toD, DL.bind_ok, DL.bind_no, Option.bind_some, Option.bind_none, Option.map_some, Option.map_none, List.length_cons, List.length_nil, List.length_append, List.length_map, List.append_nil, List.nil_append, List.cons_append, List.map_cons, List.map_nil, List.replicate, List.getElem?_cons_zero, List.getElem?_cons_succ, List.getElem?_nil, List.set_cons_zero, List.set_cons_succ, Nat.zero_add, Nat.add_zero, Nat.reduceAdd, Nat.reduceSub, if_true, if_false, Bool.not_true, Bool.not_false, Bool.and_self, Bool.and_true, Bool.true_and, Bool.or_true, Bool.true_or, Bool.false_or, Bool.or_false, List.isEmpty_nil, List.isEmpty_cons, if_pos, reduceIte, Bool.false_eq_true, eq_self, and_self, and_true, true_and, ↓reduceIte, Nat.le_refl, reduceCtorEq, Nat.sub_self, List.all_cons, List.all_nil, Bool.false_and, Nat.zero_le, Nat.reduceLeDiff, Nat.reduceEqDiff, Int.cast_ofNat_Int, Int.reduceLE, Int.reduceLT, Int.reduceEq, Int.reduceNe, Int.reduceAdd, Int.reduceSub, Int.reduceMul, Int.reduceNeg, Int.reduceToNat, decide_true, decide_false, ne_eq, not_true_eq_false, not_false_eq_true]
theorem pw1 {p : Prs} {ns : List Str} (o : PrsOk p) (hf : p.nm ∉ ns) : F_person_word_fits [.v (.int 1), .v (.str p.nm), .v (.lst (ns.map D.str))] = .ok (.v (.bl true)) none := by
  have nk := name_ok o.nm
  have i1 := in_strs p.nm ns
  rw [decide_eq_false hf] at i1
  simp only [F_person_word_fits, b_person_word_fits, int_eq', nk, gNotIn, i1, DL.le_size, DL.lt_size, Int.reducePow, Nat.reducePow, Int.reduceLT, or_true, true_or, or_false, false_or, or_self, DL.k_NoneType_int, DL.k_NoneType_str, DL.k_NoneType_tuple, DL.k_NoneType_list, DL.k_NoneType_bool, DL.k_bool_int, DL.k_bool_str, DL.k_bool_tuple, DL.k_bool_list, DL.k_bool_bool, DL.k_int_int, DL.k_int_str, DL.k_int_tuple, DL.k_int_list, DL.k_int_bool, DL.k_str_int, DL.k_str_str, DL.k_str_tuple, DL.k_str_list, DL.k_str_bool, DL.k_list_int, DL.k_list_str, DL.k_list_tuple, DL.k_list_list, DL.k_list_bool, DL.k_tuple_int, DL.k_tuple_str, DL.k_tuple_tuple, DL.k_tuple_list, DL.k_tuple_bool, DL.k_dict_int, DL.k_dict_str, DL.k_dict_tuple, DL.k_dict_list, DL.k_dict_bool, DL.runDef, DL.sSeq, DL.sIf, DL.sE, DL.sSet, DL.sRet, DL.sNx, DL.sPar, DL.assign, DL.free_z, DL.free_s, DL.okB_u, DL.okB_v, DL.okB_o, DL.fresh, DL.toD, DL.peek, DL.peeks, DL.giv, DL.eC, DL.eVar, DL.eUn, DL.eBin, DL.eT, DL.eB, DL.tNotE, DL.tAndE, DL.tOrE, DL.eIf, DL.eNot, DL.eAnd, DL.eOr, DL.eChain, DL.eDs, DL.eTup, DL.eLst, DL.eVs, DL.eBi, DL.eDct, DL.eKs, DL.mergeD, DL.sPut, DL.sFor, DL.sAsg, DL.tgN, DL.tgT, DL.tgs, DL.eMut, DL.gAppend, DL.eM1, DL.eFmt, DL.eJs, DL.eSl, DL.ePart, DL.gIx, DL.keyD, DL.gAdd, DL.gSub, DL.gMul, DL.gMod, DL.gDiv, DL.gPow, DL.gLt, DL.gLe, DL.gGt, DL.gGe, DL.gIs, DL.gIsNot, DL.isNon, DL.gIsi, DL.tyD, DL.gLen, DL.gTuple, DL.sv, DL.truth, DL.eCall, DL.eArgs, DL.callF, DL.slotsOf, DL.countIo, DL.ioOf, DL.borsOf, DL.borOk, DL.back1, DL.putBack, DL.nolR, DL.nolM, DL.nolO, DL.fin, DL.ioM, DL.M.toD, DL.bind_ok, DL.bind_no, Option.bind_some, Option.bind_none, Option.map_some, Option.map_none, List.length_cons, List.length_nil, List.length_append, List.length_map, List.append_nil, List.nil_append, List.cons_append, List.map_cons, List.map_nil, List.replicate, List.getElem?_cons_zero, List.getElem?_cons_succ, List.getElem?_nil, List.set_cons_zero, List.set_cons_succ, Nat.zero_add, Nat.add_zero, Nat.reduceAdd, Nat.reduceSub, if_true, if_false, Bool.not_true, Bool.not_false, Bool.and_self, Bool.and_true, Bool.true_and, Bool.or_true, Bool.true_or, Bool.false_or, Bool.or_false, List.isEmpty_nil, List.isEmpty_cons, if_pos, reduceIte, Bool.false_eq_true, eq_self, and_self, and_true, true_and, ↓reduceIte, Nat.le_refl, reduceCtorEq, Nat.sub_self, List.all_cons, List.all_nil, Bool.false_and, Nat.zero_le, Nat.reduceLeDiff, Nat.reduceEqDiff, Int.cast_ofNat_Int, Int.reduceLE, Int.reduceLT, Int.reduceEq, Int.reduceNe, Int.reduceAdd, Int.reduceSub, Int.reduceMul, Int.reduceNeg, Int.reduceToNat, decide_true, decide_false, ne_eq, not_true_eq_false, not_false_eq_true]
theorem pw2 {p : Prs} {ns : List Str} (o : PrsOk p) (ha : p.ab = Str.ofString "" ∨ p.ab ∈ ns) : F_person_word_fits [.v (.int 2), .v (.str (wd p)), .v (.lst (ns.map D.str))] = .ok (.v (.bl true)) none := by
  by_cases h : p.ab = Str.ofString ""
  · have wp : wd p = Str.ofString "-" := if_pos h
    have e := str_eq dash_str dash_str
    rw [wp]
    simp only [F_person_word_fits, b_person_word_fits, int_eq', e, DL.le_size, DL.lt_size, Int.reducePow, Nat.reducePow, Int.reduceLT, or_true, true_or, or_false, false_or, or_self, DL.k_NoneType_int, DL.k_NoneType_str, DL.k_NoneType_tuple, DL.k_NoneType_list, DL.k_NoneType_bool, DL.k_bool_int, DL.k_bool_str, DL.k_bool_tuple, DL.k_bool_list, DL.k_bool_bool, DL.k_int_int, DL.k_int_str, DL.k_int_tuple, DL.k_int_list, DL.k_int_bool, DL.k_str_int, DL.k_str_str, DL.k_str_tuple, DL.k_str_list, DL.k_str_bool, DL.k_list_int, DL.k_list_str, DL.k_list_tuple, DL.k_list_list, DL.k_list_bool, DL.k_tuple_int, DL.k_tuple_str, DL.k_tuple_tuple, DL.k_tuple_list, DL.k_tuple_bool, DL.k_dict_int, DL.k_dict_str, DL.k_dict_tuple, DL.k_dict_list, DL.k_dict_bool, DL.runDef, DL.sSeq, DL.sIf, DL.sE, DL.sSet, DL.sRet, DL.sNx, DL.sPar, DL.assign, DL.free_z, DL.free_s, DL.okB_u, DL.okB_v, DL.okB_o, DL.fresh, DL.toD, DL.peek, DL.peeks, DL.giv, DL.eC, DL.eVar, DL.eUn, DL.eBin, DL.eT, DL.eB, DL.tNotE, DL.tAndE, DL.tOrE, DL.eIf, DL.eNot, DL.eAnd, DL.eOr, DL.eChain, DL.eDs, DL.eTup, DL.eLst, DL.eVs, DL.eBi, DL.eDct, DL.eKs, DL.mergeD, DL.sPut, DL.sFor, DL.sAsg, DL.tgN, DL.tgT, DL.tgs, DL.eMut, DL.gAppend, DL.eM1, DL.eFmt, DL.eJs, DL.eSl, DL.ePart, DL.gIx, DL.keyD, DL.gAdd, DL.gSub, DL.gMul, DL.gMod, DL.gDiv, DL.gPow, DL.gLt, DL.gLe, DL.gGt, DL.gGe, DL.gIs, DL.gIsNot, DL.isNon, DL.gIsi, DL.tyD, DL.gLen, DL.gTuple, DL.sv, DL.truth, DL.eCall, DL.eArgs, DL.callF, DL.slotsOf, DL.countIo, DL.ioOf, DL.borsOf, DL.borOk, DL.back1, DL.putBack, DL.nolR, DL.nolM, DL.nolO, DL.fin, DL.ioM, DL.M.toD, DL.bind_ok, DL.bind_no, Option.bind_some, Option.bind_none, Option.map_some, Option.map_none, List.length_cons, List.length_nil, List.length_append, List.length_map, List.append_nil, List.nil_append, List.cons_append, List.map_cons, List.map_nil, List.replicate, List.getElem?_cons_zero, List.getElem?_cons_succ, List.getElem?_nil, List.set_cons_zero, List.set_cons_succ, Nat.zero_add, Nat.add_zero, Nat.reduceAdd, Nat.reduceSub, if_true, if_false, Bool.not_true, Bool.not_false, Bool.and_self, Bool.and_true, Bool.true_and, Bool.or_true, Bool.true_or, Bool.false_or, Bool.or_false, List.isEmpty_nil, List.isEmpty_cons, if_pos, reduceIte, Bool.false_eq_true, eq_self, and_self, and_true, true_and, ↓reduceIte, Nat.le_refl, reduceCtorEq, Nat.sub_self, List.all_cons, List.all_nil, Bool.false_and, Nat.zero_le, Nat.reduceLeDiff, Nat.reduceEqDiff, Int.cast_ofNat_Int, Int.reduceLE, Int.reduceLT, Int.reduceEq, Int.reduceNe, Int.reduceAdd, Int.reduceSub, Int.reduceMul, Int.reduceNeg, Int.reduceToNat, decide_true, decide_false, ne_eq, not_true_eq_false, not_false_eq_true]
  · have wp : wd p = p.ab := if_neg h
    have i1 := in_strs p.ab ns
    rw [decide_eq_true (ha.resolve_left h)] at i1
    have nd : p.ab ≠ Str.ofString "-" := fun z => by
      have hc : (45 : Nat) ∈ TL.tl p.ab := by rw [z, dash_tl]; simp
      have := (o.ab.resolve_left h).2.2 45 hc
      omega
    have e := str_eq (ab_ok o.ab) dash_str
    rw [decide_eq_false nd] at e
    rw [wp]
    simp only [F_person_word_fits, b_person_word_fits, int_eq', e, gIn, i1, DL.le_size, DL.lt_size, Int.reducePow, Nat.reducePow, Int.reduceLT, or_true, true_or, or_false, false_or, or_self, DL.k_NoneType_int, DL.k_NoneType_str, DL.k_NoneType_tuple, DL.k_NoneType_list, DL.k_NoneType_bool, DL.k_bool_int, DL.k_bool_str, DL.k_bool_tuple, DL.k_bool_list, DL.k_bool_bool, DL.k_int_int, DL.k_int_str, DL.k_int_tuple, DL.k_int_list, DL.k_int_bool, DL.k_str_int, DL.k_str_str, DL.k_str_tuple, DL.k_str_list, DL.k_str_bool, DL.k_list_int, DL.k_list_str, DL.k_list_tuple, DL.k_list_list, DL.k_list_bool, DL.k_tuple_int, DL.k_tuple_str, DL.k_tuple_tuple, DL.k_tuple_list, DL.k_tuple_bool, DL.k_dict_int, DL.k_dict_str, DL.k_dict_tuple, DL.k_dict_list, DL.k_dict_bool, DL.runDef, DL.sSeq, DL.sIf, DL.sE, DL.sSet, DL.sRet, DL.sNx, DL.sPar, DL.assign, DL.free_z, DL.free_s, DL.okB_u, DL.okB_v, DL.okB_o, DL.fresh, DL.toD, DL.peek, DL.peeks, DL.giv, DL.eC, DL.eVar, DL.eUn, DL.eBin, DL.eT, DL.eB, DL.tNotE, DL.tAndE, DL.tOrE, DL.eIf, DL.eNot, DL.eAnd, DL.eOr, DL.eChain, DL.eDs, DL.eTup, DL.eLst, DL.eVs, DL.eBi, DL.eDct, DL.eKs, DL.mergeD, DL.sPut, DL.sFor, DL.sAsg, DL.tgN, DL.tgT, DL.tgs, DL.eMut, DL.gAppend, DL.eM1, DL.eFmt, DL.eJs, DL.eSl, DL.ePart, DL.gIx, DL.keyD, DL.gAdd, DL.gSub, DL.gMul, DL.gMod, DL.gDiv, DL.gPow, DL.gLt, DL.gLe, DL.gGt, DL.gGe, DL.gIs, DL.gIsNot, DL.isNon, DL.gIsi, DL.tyD, DL.gLen, DL.gTuple, DL.sv, DL.truth, DL.eCall, DL.eArgs, DL.callF, DL.slotsOf, DL.countIo, DL.ioOf, DL.borsOf, DL.borOk, DL.back1, DL.putBack, DL.nolR, DL.nolM, DL.nolO, DL.fin, DL.ioM, DL.M.toD, DL.bind_ok, DL.bind_no, Option.bind_some, Option.bind_none, Option.map_some, Option.map_none, List.length_cons, List.length_nil, List.length_append, List.length_map, List.append_nil, List.nil_append, List.cons_append, List.map_cons, List.map_nil, List.replicate, List.getElem?_cons_zero, List.getElem?_cons_succ, List.getElem?_nil, List.set_cons_zero, List.set_cons_succ, Nat.zero_add, Nat.add_zero, Nat.reduceAdd, Nat.reduceSub, if_true, if_false, Bool.not_true, Bool.not_false, Bool.and_self, Bool.and_true, Bool.true_and, Bool.or_true, Bool.true_or, Bool.false_or, Bool.or_false, List.isEmpty_nil, List.isEmpty_cons, if_pos, reduceIte, Bool.false_eq_true, eq_self, and_self, and_true, true_and, ↓reduceIte, Nat.le_refl, reduceCtorEq, Nat.sub_self, List.all_cons, List.all_nil, Bool.false_and, Nat.zero_le, Nat.reduceLeDiff, Nat.reduceEqDiff, Int.cast_ofNat_Int, Int.reduceLE, Int.reduceLT, Int.reduceEq, Int.reduceNe, Int.reduceAdd, Int.reduceSub, Int.reduceMul, Int.reduceNeg, Int.reduceToNat, decide_true, decide_false, ne_eq, not_true_eq_false, not_false_eq_true]
theorem pw3 {p : Prs} {ns : List Str} (o : PrsOk p) : F_person_word_fits [.v (.int 3), .v (.str (numS p.tk)), .v (.lst (ns.map D.str))] = .ok (.v (.bl true)) none := by
  have t0 := o.t0
  have t1 := o.t1
  have nb := num_back (i := p.tk) (by omega) t1
  have tk := talk_int p.tk
  simp only [F_person_word_fits, b_person_word_fits, int_eq', nb, tk, t0, t1, DL.le_size, DL.lt_size, Int.reducePow, Nat.reducePow, Int.reduceLT, or_true, true_or, or_false, false_or, or_self, DL.k_NoneType_int, DL.k_NoneType_str, DL.k_NoneType_tuple, DL.k_NoneType_list, DL.k_NoneType_bool, DL.k_bool_int, DL.k_bool_str, DL.k_bool_tuple, DL.k_bool_list, DL.k_bool_bool, DL.k_int_int, DL.k_int_str, DL.k_int_tuple, DL.k_int_list, DL.k_int_bool, DL.k_str_int, DL.k_str_str, DL.k_str_tuple, DL.k_str_list, DL.k_str_bool, DL.k_list_int, DL.k_list_str, DL.k_list_tuple, DL.k_list_list, DL.k_list_bool, DL.k_tuple_int, DL.k_tuple_str, DL.k_tuple_tuple, DL.k_tuple_list, DL.k_tuple_bool, DL.k_dict_int, DL.k_dict_str, DL.k_dict_tuple, DL.k_dict_list, DL.k_dict_bool, DL.runDef, DL.sSeq, DL.sIf, DL.sE, DL.sSet, DL.sRet, DL.sNx, DL.sPar, DL.assign, DL.free_z, DL.free_s, DL.okB_u, DL.okB_v, DL.okB_o, DL.fresh, DL.toD, DL.peek, DL.peeks, DL.giv, DL.eC, DL.eVar, DL.eUn, DL.eBin, DL.eT, DL.eB, DL.tNotE, DL.tAndE, DL.tOrE, DL.eIf, DL.eNot, DL.eAnd, DL.eOr, DL.eChain, DL.eDs, DL.eTup, DL.eLst, DL.eVs, DL.eBi, DL.eDct, DL.eKs, DL.mergeD, DL.sPut, DL.sFor, DL.sAsg, DL.tgN, DL.tgT, DL.tgs, DL.eMut, DL.gAppend, DL.eM1, DL.eFmt, DL.eJs, DL.eSl, DL.ePart, DL.gIx, DL.keyD, DL.gAdd, DL.gSub, DL.gMul, DL.gMod, DL.gDiv, DL.gPow, DL.gLt, DL.gLe, DL.gGt, DL.gGe, DL.gIs, DL.gIsNot, DL.isNon, DL.gIsi, DL.tyD, DL.gLen, DL.gTuple, DL.sv, DL.truth, DL.eCall, DL.eArgs, DL.callF, DL.slotsOf, DL.countIo, DL.ioOf, DL.borsOf, DL.borOk, DL.back1, DL.putBack, DL.nolR, DL.nolM, DL.nolO, DL.fin, DL.ioM, DL.M.toD, DL.bind_ok, DL.bind_no, Option.bind_some, Option.bind_none, Option.map_some, Option.map_none, List.length_cons, List.length_nil, List.length_append, List.length_map, List.append_nil, List.nil_append, List.cons_append, List.map_cons, List.map_nil, List.replicate, List.getElem?_cons_zero, List.getElem?_cons_succ, List.getElem?_nil, List.set_cons_zero, List.set_cons_succ, Nat.zero_add, Nat.add_zero, Nat.reduceAdd, Nat.reduceSub, if_true, if_false, Bool.not_true, Bool.not_false, Bool.and_self, Bool.and_true, Bool.true_and, Bool.or_true, Bool.true_or, Bool.false_or, Bool.or_false, List.isEmpty_nil, List.isEmpty_cons, if_pos, reduceIte, Bool.false_eq_true, eq_self, and_self, and_true, true_and, ↓reduceIte, Nat.le_refl, reduceCtorEq, Nat.sub_self, List.all_cons, List.all_nil, Bool.false_and, Nat.zero_le, Nat.reduceLeDiff, Nat.reduceEqDiff, Int.cast_ofNat_Int, Int.reduceLE, Int.reduceLT, Int.reduceEq, Int.reduceNe, Int.reduceAdd, Int.reduceSub, Int.reduceMul, Int.reduceNeg, Int.reduceToNat, decide_true, decide_false, ne_eq, not_true_eq_false, not_false_eq_true]
theorem head_len {w d : Int} (w0 : 1 ≤ w) (w1 : w ≤ 60) (d0 : 0 ≤ d) (d1 : d ≤ 4) : (headS w d).length ≤ 10 := by
  have h1 := numS_len (i := w) (by omega) w1
  have h2 := numS_len d0 (by omega)
  unfold headS
  rw [Str.length_append, Str.length_append, Str.length_append, sp_len, tree_len]
  omega
theorem rhead_ok {w d : Int} (w0 : 1 ≤ w) (w1 : w ≤ 60) (d0 : 0 ≤ d) (d1 : d ≤ 4) : F_read_head [.v (.int 1), .v (.str (headS w d)), .v (.int 4)] = .ok (.v (.tup [.int w, .int d])) none := by
  have wi := wordsin_ok 1 (head_split w0 w1 d0 d1) (size64 (by have := head_len w0 w1 d0 d1; omega)) (by decide +kernel) (numS_some (by omega) w1) (numS_some d0 (by omega))
  have b1 := num_back (i := w) (by omega) w1
  have b2 := num_back (i := d) d0 (by omega)
  have nw := needw_ok 1
  have h2 := hw2 w0 w1
  have h3 := hw3 d0 d1
  have a1 : L2.atI [D.str (Str.ofString "tree"), .str (numS w), .str (numS d)] 1 = some (.str (numS w)) := rfl
  have a2 : L2.atI [D.str (Str.ofString "tree"), .str (numS w), .str (numS d)] 2 = some (.str (numS d)) := rfl
  simp only [F_read_head, b_read_head, wi, eLc, DL.iEnum, enumD, compL, clean, wipeE, keepE, cYes, e0_read_head, hw1, h2, h3, nw, a1, a2, b1, b2, DL.le_size, DL.lt_size, Int.reducePow, Nat.reducePow, Int.reduceLT, or_true, true_or, or_false, false_or, or_self, DL.k_NoneType_int, DL.k_NoneType_str, DL.k_NoneType_tuple, DL.k_NoneType_list, DL.k_NoneType_bool, DL.k_bool_int, DL.k_bool_str, DL.k_bool_tuple, DL.k_bool_list, DL.k_bool_bool, DL.k_int_int, DL.k_int_str, DL.k_int_tuple, DL.k_int_list, DL.k_int_bool, DL.k_str_int, DL.k_str_str, DL.k_str_tuple, DL.k_str_list, DL.k_str_bool, DL.k_list_int, DL.k_list_str, DL.k_list_tuple, DL.k_list_list, DL.k_list_bool, DL.k_tuple_int, DL.k_tuple_str, DL.k_tuple_tuple, DL.k_tuple_list, DL.k_tuple_bool, DL.k_dict_int, DL.k_dict_str, DL.k_dict_tuple, DL.k_dict_list, DL.k_dict_bool, DL.runDef, DL.sSeq, DL.sIf, DL.sE, DL.sSet, DL.sRet, DL.sNx, DL.sPar, DL.assign, DL.free_z, DL.free_s, DL.okB_u, DL.okB_v, DL.okB_o, DL.fresh, DL.toD, DL.peek, DL.peeks, DL.giv, DL.eC, DL.eVar, DL.eUn, DL.eBin, DL.eT, DL.eB, DL.tNotE, DL.tAndE, DL.tOrE, DL.eIf, DL.eNot, DL.eAnd, DL.eOr, DL.eChain, DL.eDs, DL.eTup, DL.eLst, DL.eVs, DL.eBi, DL.eDct, DL.eKs, DL.mergeD, DL.sPut, DL.sFor, DL.sAsg, DL.tgN, DL.tgT, DL.tgs, DL.eMut, DL.gAppend, DL.eM1, DL.eFmt, DL.eJs, DL.eSl, DL.ePart, DL.gIx, DL.keyD, DL.gAdd, DL.gSub, DL.gMul, DL.gMod, DL.gDiv, DL.gPow, DL.gLt, DL.gLe, DL.gGt, DL.gGe, DL.gIs, DL.gIsNot, DL.isNon, DL.gIsi, DL.tyD, DL.gLen, DL.gTuple, DL.sv, DL.truth, DL.eCall, DL.eArgs, DL.callF, DL.slotsOf, DL.countIo, DL.ioOf, DL.borsOf, DL.borOk, DL.back1, DL.putBack, DL.nolR, DL.nolM, DL.nolO, DL.fin, DL.ioM, DL.M.toD, DL.bind_ok, DL.bind_no, Option.bind_some, Option.bind_none, Option.map_some, Option.map_none, List.length_cons, List.length_nil, List.length_append, List.length_map, List.append_nil, List.nil_append, List.cons_append, List.map_cons, List.map_nil, List.replicate, List.getElem?_cons_zero, List.getElem?_cons_succ, List.getElem?_nil, List.set_cons_zero, List.set_cons_succ, Nat.zero_add, Nat.add_zero, Nat.reduceAdd, Nat.reduceSub, if_true, if_false, Bool.not_true, Bool.not_false, Bool.and_self, Bool.and_true, Bool.true_and, Bool.or_true, Bool.true_or, Bool.false_or, Bool.or_false, List.isEmpty_nil, List.isEmpty_cons, if_pos, reduceIte, Bool.false_eq_true, eq_self, and_self, and_true, true_and, ↓reduceIte, Nat.le_refl, reduceCtorEq, Nat.sub_self, List.all_cons, List.all_nil, Bool.false_and, Nat.zero_le, Nat.reduceLeDiff, Nat.reduceEqDiff, Int.cast_ofNat_Int, Int.reduceLE, Int.reduceLT, Int.reduceEq, Int.reduceNe, Int.reduceAdd, Int.reduceSub, Int.reduceMul, Int.reduceNeg, Int.reduceToNat, decide_true, decide_false, ne_eq, not_true_eq_false, not_false_eq_true]
theorem wd_str {p : Prs} (o : PrsOk p) : PyData.strOk (wd p) = true := by
  unfold wd
  split
  · exact dash_str
  · exact ab_ok o.ab
theorem rperson_ok {n : Int} {p : Prs} {qs : List Prs} (o : PrsOk p) (hf : p.nm ∉ qs.map Prs.nm) (ha : p.ab = Str.ofString "" ∨ p.ab ∈ qs.map Prs.nm) (l : qs.length < 16) : F_read_person [.v (.int n), .v (.str (rowS p)), .v (.lst (qs.map pD))] = .ok (.v (pD p)) none := by
  have t0 := o.t0
  have t1 := o.t1
  have wi := wordsin_ok n (row_split o) (size64 (by have := row_len o; omega)) o.nm.1 (wd_some o) (numS_some (by omega) t1)
  have nl : ¬ ((qs.length : Int) = 16) := by omega
  have nb := num_back (i := p.tk) (by omega) t1
  have nw := needw_ok n
  have nms : (qs.map pD).map (fun d => match d with | .tup (x :: _) => x | d => d) = (qs.map Prs.nm).map D.str := by rw [List.map_map, List.map_map]; rfl
  have w1 := pw1 (ns := qs.map Prs.nm) o hf
  have w2 := pw2 (ns := qs.map Prs.nm) o ha
  have w3 := pw3 (ns := qs.map Prs.nm) o
  have s1 : sIf (eB (eBin gEq (eBi gLen [eVar 2]) (eC (.int 16)))) sNo sNx [.v (.int n), .v (.str (rowS p)), .v (.lst (qs.map pD)), .u, .u, .u, .u, .u, .u, .u, .u, .u] = .ok .nx [.v (.int n), .v (.str (rowS p)), .v (.lst (qs.map pD)), .u, .u, .u, .u, .u, .u, .u, .u, .u] := by
    simp only [int_eq', decide_eq_false nl, DL.le_size, DL.lt_size, Int.reducePow, Nat.reducePow, Int.reduceLT, or_true, true_or, or_false, false_or, or_self, DL.k_NoneType_int, DL.k_NoneType_str, DL.k_NoneType_tuple, DL.k_NoneType_list, DL.k_NoneType_bool, DL.k_bool_int, DL.k_bool_str, DL.k_bool_tuple, DL.k_bool_list, DL.k_bool_bool, DL.k_int_int, DL.k_int_str, DL.k_int_tuple, DL.k_int_list, DL.k_int_bool, DL.k_str_int, DL.k_str_str, DL.k_str_tuple, DL.k_str_list, DL.k_str_bool, DL.k_list_int, DL.k_list_str, DL.k_list_tuple, DL.k_list_list, DL.k_list_bool, DL.k_tuple_int, DL.k_tuple_str, DL.k_tuple_tuple, DL.k_tuple_list, DL.k_tuple_bool, DL.k_dict_int, DL.k_dict_str, DL.k_dict_tuple, DL.k_dict_list, DL.k_dict_bool, DL.runDef, DL.sSeq, DL.sIf, DL.sE, DL.sSet, DL.sRet, DL.sNx, DL.sPar, DL.assign, DL.free_z, DL.free_s, DL.okB_u, DL.okB_v, DL.okB_o, DL.fresh, DL.toD, DL.peek, DL.peeks, DL.giv, DL.eC, DL.eVar, DL.eUn, DL.eBin, DL.eT, DL.eB, DL.tNotE, DL.tAndE, DL.tOrE, DL.eIf, DL.eNot, DL.eAnd, DL.eOr, DL.eChain, DL.eDs, DL.eTup, DL.eLst, DL.eVs, DL.eBi, DL.eDct, DL.eKs, DL.mergeD, DL.sPut, DL.sFor, DL.sAsg, DL.tgN, DL.tgT, DL.tgs, DL.eMut, DL.gAppend, DL.eM1, DL.eFmt, DL.eJs, DL.eSl, DL.ePart, DL.gIx, DL.keyD, DL.gAdd, DL.gSub, DL.gMul, DL.gMod, DL.gDiv, DL.gPow, DL.gLt, DL.gLe, DL.gGt, DL.gGe, DL.gIs, DL.gIsNot, DL.isNon, DL.gIsi, DL.tyD, DL.gLen, DL.gTuple, DL.sv, DL.truth, DL.eCall, DL.eArgs, DL.callF, DL.slotsOf, DL.countIo, DL.ioOf, DL.borsOf, DL.borOk, DL.back1, DL.putBack, DL.nolR, DL.nolM, DL.nolO, DL.fin, DL.ioM, DL.M.toD, DL.bind_ok, DL.bind_no, Option.bind_some, Option.bind_none, Option.map_some, Option.map_none, List.length_cons, List.length_nil, List.length_append, List.length_map, List.append_nil, List.nil_append, List.cons_append, List.map_cons, List.map_nil, List.replicate, List.getElem?_cons_zero, List.getElem?_cons_succ, List.getElem?_nil, List.set_cons_zero, List.set_cons_succ, Nat.zero_add, Nat.add_zero, Nat.reduceAdd, Nat.reduceSub, if_true, if_false, Bool.not_true, Bool.not_false, Bool.and_self, Bool.and_true, Bool.true_and, Bool.or_true, Bool.true_or, Bool.false_or, Bool.or_false, List.isEmpty_nil, List.isEmpty_cons, if_pos, reduceIte, Bool.false_eq_true, eq_self, and_self, and_true, true_and, ↓reduceIte, Nat.le_refl, reduceCtorEq, Nat.sub_self, List.all_cons, List.all_nil, Bool.false_and, Nat.zero_le, Nat.reduceLeDiff, Nat.reduceEqDiff, Int.cast_ofNat_Int, Int.reduceLE, Int.reduceLT, Int.reduceEq, Int.reduceNe, Int.reduceAdd, Int.reduceSub, Int.reduceMul, Int.reduceNeg, Int.reduceToNat, decide_true, decide_false, ne_eq, not_true_eq_false, not_false_eq_true]
  have s2 : sSet 3 (eCall F_words_in 2 none [] [(.v, eVar 0), (.v, eVar 1)]) [.v (.int n), .v (.str (rowS p)), .v (.lst (qs.map pD)), .u, .u, .u, .u, .u, .u, .u, .u, .u] = .ok .nx [.v (.int n), .v (.str (rowS p)), .v (.lst (qs.map pD)), .o false false (.l [.str p.nm, .str (wd p), .str (numS p.tk)]), .u, .u, .u, .u, .u, .u, .u, .u] := by
    simp only [wi, DL.le_size, DL.lt_size, Int.reducePow, Nat.reducePow, Int.reduceLT, or_true, true_or, or_false, false_or, or_self, DL.k_NoneType_int, DL.k_NoneType_str, DL.k_NoneType_tuple, DL.k_NoneType_list, DL.k_NoneType_bool, DL.k_bool_int, DL.k_bool_str, DL.k_bool_tuple, DL.k_bool_list, DL.k_bool_bool, DL.k_int_int, DL.k_int_str, DL.k_int_tuple, DL.k_int_list, DL.k_int_bool, DL.k_str_int, DL.k_str_str, DL.k_str_tuple, DL.k_str_list, DL.k_str_bool, DL.k_list_int, DL.k_list_str, DL.k_list_tuple, DL.k_list_list, DL.k_list_bool, DL.k_tuple_int, DL.k_tuple_str, DL.k_tuple_tuple, DL.k_tuple_list, DL.k_tuple_bool, DL.k_dict_int, DL.k_dict_str, DL.k_dict_tuple, DL.k_dict_list, DL.k_dict_bool, DL.runDef, DL.sSeq, DL.sIf, DL.sE, DL.sSet, DL.sRet, DL.sNx, DL.sPar, DL.assign, DL.free_z, DL.free_s, DL.okB_u, DL.okB_v, DL.okB_o, DL.fresh, DL.toD, DL.peek, DL.peeks, DL.giv, DL.eC, DL.eVar, DL.eUn, DL.eBin, DL.eT, DL.eB, DL.tNotE, DL.tAndE, DL.tOrE, DL.eIf, DL.eNot, DL.eAnd, DL.eOr, DL.eChain, DL.eDs, DL.eTup, DL.eLst, DL.eVs, DL.eBi, DL.eDct, DL.eKs, DL.mergeD, DL.sPut, DL.sFor, DL.sAsg, DL.tgN, DL.tgT, DL.tgs, DL.eMut, DL.gAppend, DL.eM1, DL.eFmt, DL.eJs, DL.eSl, DL.ePart, DL.gIx, DL.keyD, DL.gAdd, DL.gSub, DL.gMul, DL.gMod, DL.gDiv, DL.gPow, DL.gLt, DL.gLe, DL.gGt, DL.gGe, DL.gIs, DL.gIsNot, DL.isNon, DL.gIsi, DL.tyD, DL.gLen, DL.gTuple, DL.sv, DL.truth, DL.eCall, DL.eArgs, DL.callF, DL.slotsOf, DL.countIo, DL.ioOf, DL.borsOf, DL.borOk, DL.back1, DL.putBack, DL.nolR, DL.nolM, DL.nolO, DL.fin, DL.ioM, DL.M.toD, DL.bind_ok, DL.bind_no, Option.bind_some, Option.bind_none, Option.map_some, Option.map_none, List.length_cons, List.length_nil, List.length_append, List.length_map, List.append_nil, List.nil_append, List.cons_append, List.map_cons, List.map_nil, List.replicate, List.getElem?_cons_zero, List.getElem?_cons_succ, List.getElem?_nil, List.set_cons_zero, List.set_cons_succ, Nat.zero_add, Nat.add_zero, Nat.reduceAdd, Nat.reduceSub, if_true, if_false, Bool.not_true, Bool.not_false, Bool.and_self, Bool.and_true, Bool.true_and, Bool.or_true, Bool.true_or, Bool.false_or, Bool.or_false, List.isEmpty_nil, List.isEmpty_cons, if_pos, reduceIte, Bool.false_eq_true, eq_self, and_self, and_true, true_and, ↓reduceIte, Nat.le_refl, reduceCtorEq, Nat.sub_self, List.all_cons, List.all_nil, Bool.false_and, Nat.zero_le, Nat.reduceLeDiff, Nat.reduceEqDiff, Int.cast_ofNat_Int, Int.reduceLE, Int.reduceLT, Int.reduceEq, Int.reduceNe, Int.reduceAdd, Int.reduceSub, Int.reduceMul, Int.reduceNeg, Int.reduceToNat, decide_true, decide_false, ne_eq, not_true_eq_false, not_false_eq_true]
  have lc : eLc [9] (tgN 9) (iSeq (eVar 2)) cYes e0_read_person [.v (.int n), .v (.str (rowS p)), .v (.lst (qs.map pD)), .o false false (.l [.str p.nm, .str (wd p), .str (numS p.tk)]), .u, .u, .u, .u, .u, .u, .u, .u] = .ok (.m (.l ((qs.map Prs.nm).map D.str))) [.v (.int n), .v (.str (rowS p)), .v (.lst (qs.map pD)), .o false false (.l [.str p.nm, .str (wd p), .str (numS p.tk)]), .u, .u, .u, .u, .u, .u, .u, .u] := by
    rw [← nms]
    refine eLc_map (ds := qs.map pD) _ (by simp only [iSeq, DL.le_size, DL.lt_size, Int.reducePow, Nat.reducePow, Int.reduceLT, or_true, true_or, or_false, false_or, or_self, DL.k_NoneType_int, DL.k_NoneType_str, DL.k_NoneType_tuple, DL.k_NoneType_list, DL.k_NoneType_bool, DL.k_bool_int, DL.k_bool_str, DL.k_bool_tuple, DL.k_bool_list, DL.k_bool_bool, DL.k_int_int, DL.k_int_str, DL.k_int_tuple, DL.k_int_list, DL.k_int_bool, DL.k_str_int, DL.k_str_str, DL.k_str_tuple, DL.k_str_list, DL.k_str_bool, DL.k_list_int, DL.k_list_str, DL.k_list_tuple, DL.k_list_list, DL.k_list_bool, DL.k_tuple_int, DL.k_tuple_str, DL.k_tuple_tuple, DL.k_tuple_list, DL.k_tuple_bool, DL.k_dict_int, DL.k_dict_str, DL.k_dict_tuple, DL.k_dict_list, DL.k_dict_bool, DL.runDef, DL.sSeq, DL.sIf, DL.sE, DL.sSet, DL.sRet, DL.sNx, DL.sPar, DL.assign, DL.free_z, DL.free_s, DL.okB_u, DL.okB_v, DL.okB_o, DL.fresh, DL.toD, DL.peek, DL.peeks, DL.giv, DL.eC, DL.eVar, DL.eUn, DL.eBin, DL.eT, DL.eB, DL.tNotE, DL.tAndE, DL.tOrE, DL.eIf, DL.eNot, DL.eAnd, DL.eOr, DL.eChain, DL.eDs, DL.eTup, DL.eLst, DL.eVs, DL.eBi, DL.eDct, DL.eKs, DL.mergeD, DL.sPut, DL.sFor, DL.sAsg, DL.tgN, DL.tgT, DL.tgs, DL.eMut, DL.gAppend, DL.eM1, DL.eFmt, DL.eJs, DL.eSl, DL.ePart, DL.gIx, DL.keyD, DL.gAdd, DL.gSub, DL.gMul, DL.gMod, DL.gDiv, DL.gPow, DL.gLt, DL.gLe, DL.gGt, DL.gGe, DL.gIs, DL.gIsNot, DL.isNon, DL.gIsi, DL.tyD, DL.gLen, DL.gTuple, DL.sv, DL.truth, DL.eCall, DL.eArgs, DL.callF, DL.slotsOf, DL.countIo, DL.ioOf, DL.borsOf, DL.borOk, DL.back1, DL.putBack, DL.nolR, DL.nolM, DL.nolO, DL.fin, DL.ioM, DL.M.toD, DL.bind_ok, DL.bind_no, Option.bind_some, Option.bind_none, Option.map_some, Option.map_none, List.length_cons, List.length_nil, List.length_append, List.length_map, List.append_nil, List.nil_append, List.cons_append, List.map_cons, List.map_nil, List.replicate, List.getElem?_cons_zero, List.getElem?_cons_succ, List.getElem?_nil, List.set_cons_zero, List.set_cons_succ, Nat.zero_add, Nat.add_zero, Nat.reduceAdd, Nat.reduceSub, if_true, if_false, Bool.not_true, Bool.not_false, Bool.and_self, Bool.and_true, Bool.true_and, Bool.or_true, Bool.true_or, Bool.false_or, Bool.or_false, List.isEmpty_nil, List.isEmpty_cons, if_pos, reduceIte, Bool.false_eq_true, eq_self, and_self, and_true, true_and, ↓reduceIte, Nat.le_refl, reduceCtorEq, Nat.sub_self, List.all_cons, List.all_nil, Bool.false_and, Nat.zero_le, Nat.reduceLeDiff, Nat.reduceEqDiff, Int.cast_ofNat_Int, Int.reduceLE, Int.reduceLT, Int.reduceEq, Int.reduceNe, Int.reduceAdd, Int.reduceSub, Int.reduceMul, Int.reduceNeg, Int.reduceToNat, decide_true, decide_false, ne_eq, not_true_eq_false, not_false_eq_true]) rfl (size64 (by rw [List.length_map]; omega)) fun d hd => ?_
    obtain ⟨q, hq, rfl⟩ := List.mem_map.mp hd
    exact ⟨_, rfl, rfl, rfl, rfl⟩
  have s3 : sSet 4 (eLc [9] (tgN 9) (iSeq (eVar 2)) cYes e0_read_person) [.v (.int n), .v (.str (rowS p)), .v (.lst (qs.map pD)), .o false false (.l [.str p.nm, .str (wd p), .str (numS p.tk)]), .u, .u, .u, .u, .u, .u, .u, .u] = .ok .nx [.v (.int n), .v (.str (rowS p)), .v (.lst (qs.map pD)), .o false false (.l [.str p.nm, .str (wd p), .str (numS p.tk)]), .o false false (.l ((qs.map Prs.nm).map D.str)), .u, .u, .u, .u, .u, .u, .u] := by
    simp only [lc, DL.le_size, DL.lt_size, Int.reducePow, Nat.reducePow, Int.reduceLT, or_true, true_or, or_false, false_or, or_self, DL.k_NoneType_int, DL.k_NoneType_str, DL.k_NoneType_tuple, DL.k_NoneType_list, DL.k_NoneType_bool, DL.k_bool_int, DL.k_bool_str, DL.k_bool_tuple, DL.k_bool_list, DL.k_bool_bool, DL.k_int_int, DL.k_int_str, DL.k_int_tuple, DL.k_int_list, DL.k_int_bool, DL.k_str_int, DL.k_str_str, DL.k_str_tuple, DL.k_str_list, DL.k_str_bool, DL.k_list_int, DL.k_list_str, DL.k_list_tuple, DL.k_list_list, DL.k_list_bool, DL.k_tuple_int, DL.k_tuple_str, DL.k_tuple_tuple, DL.k_tuple_list, DL.k_tuple_bool, DL.k_dict_int, DL.k_dict_str, DL.k_dict_tuple, DL.k_dict_list, DL.k_dict_bool, DL.runDef, DL.sSeq, DL.sIf, DL.sE, DL.sSet, DL.sRet, DL.sNx, DL.sPar, DL.assign, DL.free_z, DL.free_s, DL.okB_u, DL.okB_v, DL.okB_o, DL.fresh, DL.toD, DL.peek, DL.peeks, DL.giv, DL.eC, DL.eVar, DL.eUn, DL.eBin, DL.eT, DL.eB, DL.tNotE, DL.tAndE, DL.tOrE, DL.eIf, DL.eNot, DL.eAnd, DL.eOr, DL.eChain, DL.eDs, DL.eTup, DL.eLst, DL.eVs, DL.eBi, DL.eDct, DL.eKs, DL.mergeD, DL.sPut, DL.sFor, DL.sAsg, DL.tgN, DL.tgT, DL.tgs, DL.eMut, DL.gAppend, DL.eM1, DL.eFmt, DL.eJs, DL.eSl, DL.ePart, DL.gIx, DL.keyD, DL.gAdd, DL.gSub, DL.gMul, DL.gMod, DL.gDiv, DL.gPow, DL.gLt, DL.gLe, DL.gGt, DL.gGe, DL.gIs, DL.gIsNot, DL.isNon, DL.gIsi, DL.tyD, DL.gLen, DL.gTuple, DL.sv, DL.truth, DL.eCall, DL.eArgs, DL.callF, DL.slotsOf, DL.countIo, DL.ioOf, DL.borsOf, DL.borOk, DL.back1, DL.putBack, DL.nolR, DL.nolM, DL.nolO, DL.fin, DL.ioM, DL.M.toD, DL.bind_ok, DL.bind_no, Option.bind_some, Option.bind_none, Option.map_some, Option.map_none, List.length_cons, List.length_nil, List.length_append, List.length_map, List.append_nil, List.nil_append, List.cons_append, List.map_cons, List.map_nil, List.replicate, List.getElem?_cons_zero, List.getElem?_cons_succ, List.getElem?_nil, List.set_cons_zero, List.set_cons_succ, Nat.zero_add, Nat.add_zero, Nat.reduceAdd, Nat.reduceSub, if_true, if_false, Bool.not_true, Bool.not_false, Bool.and_self, Bool.and_true, Bool.true_and, Bool.or_true, Bool.true_or, Bool.false_or, Bool.or_false, List.isEmpty_nil, List.isEmpty_cons, if_pos, reduceIte, Bool.false_eq_true, eq_self, and_self, and_true, true_and, ↓reduceIte, Nat.le_refl, reduceCtorEq, Nat.sub_self, List.all_cons, List.all_nil, Bool.false_and, Nat.zero_le, Nat.reduceLeDiff, Nat.reduceEqDiff, Int.cast_ofNat_Int, Int.reduceLE, Int.reduceLT, Int.reduceEq, Int.reduceNe, Int.reduceAdd, Int.reduceSub, Int.reduceMul, Int.reduceNeg, Int.reduceToNat, decide_true, decide_false, ne_eq, not_true_eq_false, not_false_eq_true]
  have s4 : sE (eCall F_need_words 3 none [] [(.v, eVar 0), (.v, eLc [10, 11] (tgT [tgN 10, tgN 11]) (DL.iEnum 1 [eVar 3]) cYes e1_read_person), (.v, eC (.int 3))]) [.v (.int n), .v (.str (rowS p)), .v (.lst (qs.map pD)), .o false false (.l [.str p.nm, .str (wd p), .str (numS p.tk)]), .o false false (.l ((qs.map Prs.nm).map D.str)), .u, .u, .u, .u, .u, .u, .u] = .ok .nx [.v (.int n), .v (.str (rowS p)), .v (.lst (qs.map pD)), .v (.lst [.str p.nm, .str (wd p), .str (numS p.tk)]), .v (.lst ((qs.map Prs.nm).map D.str)), .u, .u, .u, .u, .u, .u, .u] := by
    simp only [eLc, DL.iEnum, enumD, compL, clean, wipeE, keepE, cYes, e1_read_person, w1, w2, w3, nw, DL.le_size, DL.lt_size, Int.reducePow, Nat.reducePow, Int.reduceLT, or_true, true_or, or_false, false_or, or_self, DL.k_NoneType_int, DL.k_NoneType_str, DL.k_NoneType_tuple, DL.k_NoneType_list, DL.k_NoneType_bool, DL.k_bool_int, DL.k_bool_str, DL.k_bool_tuple, DL.k_bool_list, DL.k_bool_bool, DL.k_int_int, DL.k_int_str, DL.k_int_tuple, DL.k_int_list, DL.k_int_bool, DL.k_str_int, DL.k_str_str, DL.k_str_tuple, DL.k_str_list, DL.k_str_bool, DL.k_list_int, DL.k_list_str, DL.k_list_tuple, DL.k_list_list, DL.k_list_bool, DL.k_tuple_int, DL.k_tuple_str, DL.k_tuple_tuple, DL.k_tuple_list, DL.k_tuple_bool, DL.k_dict_int, DL.k_dict_str, DL.k_dict_tuple, DL.k_dict_list, DL.k_dict_bool, DL.runDef, DL.sSeq, DL.sIf, DL.sE, DL.sSet, DL.sRet, DL.sNx, DL.sPar, DL.assign, DL.free_z, DL.free_s, DL.okB_u, DL.okB_v, DL.okB_o, DL.fresh, DL.toD, DL.peek, DL.peeks, DL.giv, DL.eC, DL.eVar, DL.eUn, DL.eBin, DL.eT, DL.eB, DL.tNotE, DL.tAndE, DL.tOrE, DL.eIf, DL.eNot, DL.eAnd, DL.eOr, DL.eChain, DL.eDs, DL.eTup, DL.eLst, DL.eVs, DL.eBi, DL.eDct, DL.eKs, DL.mergeD, DL.sPut, DL.sFor, DL.sAsg, DL.tgN, DL.tgT, DL.tgs, DL.eMut, DL.gAppend, DL.eM1, DL.eFmt, DL.eJs, DL.eSl, DL.ePart, DL.gIx, DL.keyD, DL.gAdd, DL.gSub, DL.gMul, DL.gMod, DL.gDiv, DL.gPow, DL.gLt, DL.gLe, DL.gGt, DL.gGe, DL.gIs, DL.gIsNot, DL.isNon, DL.gIsi, DL.tyD, DL.gLen, DL.gTuple, DL.sv, DL.truth, DL.eCall, DL.eArgs, DL.callF, DL.slotsOf, DL.countIo, DL.ioOf, DL.borsOf, DL.borOk, DL.back1, DL.putBack, DL.nolR, DL.nolM, DL.nolO, DL.fin, DL.ioM, DL.M.toD, DL.bind_ok, DL.bind_no, Option.bind_some, Option.bind_none, Option.map_some, Option.map_none, List.length_cons, List.length_nil, List.length_append, List.length_map, List.append_nil, List.nil_append, List.cons_append, List.map_cons, List.map_nil, List.replicate, List.getElem?_cons_zero, List.getElem?_cons_succ, List.getElem?_nil, List.set_cons_zero, List.set_cons_succ, Nat.zero_add, Nat.add_zero, Nat.reduceAdd, Nat.reduceSub, if_true, if_false, Bool.not_true, Bool.not_false, Bool.and_self, Bool.and_true, Bool.true_and, Bool.or_true, Bool.true_or, Bool.false_or, Bool.or_false, List.isEmpty_nil, List.isEmpty_cons, if_pos, reduceIte, Bool.false_eq_true, eq_self, and_self, and_true, true_and, ↓reduceIte, Nat.le_refl, reduceCtorEq, Nat.sub_self, List.all_cons, List.all_nil, Bool.false_and, Nat.zero_le, Nat.reduceLeDiff, Nat.reduceEqDiff, Int.cast_ofNat_Int, Int.reduceLE, Int.reduceLT, Int.reduceEq, Int.reduceNe, Int.reduceAdd, Int.reduceSub, Int.reduceMul, Int.reduceNeg, Int.reduceToNat, decide_true, decide_false, ne_eq, not_true_eq_false, not_false_eq_true]
    try rfl
  have s5 : sAsg (tgT [tgN 5, tgN 6, tgN 7]) (eVar 3) [.v (.int n), .v (.str (rowS p)), .v (.lst (qs.map pD)), .v (.lst [.str p.nm, .str (wd p), .str (numS p.tk)]), .v (.lst ((qs.map Prs.nm).map D.str)), .u, .u, .u, .u, .u, .u, .u] = .ok .nx [.v (.int n), .v (.str (rowS p)), .v (.lst (qs.map pD)), .v (.lst [.str p.nm, .str (wd p), .str (numS p.tk)]), .v (.lst ((qs.map Prs.nm).map D.str)), .v (.str p.nm), .v (.str (wd p)), .v (.str (numS p.tk)), .u, .u, .u, .u] := by
    simp only [eC, DL.le_size, DL.lt_size, Int.reducePow, Nat.reducePow, Int.reduceLT, or_true, true_or, or_false, false_or, or_self, DL.k_NoneType_int, DL.k_NoneType_str, DL.k_NoneType_tuple, DL.k_NoneType_list, DL.k_NoneType_bool, DL.k_bool_int, DL.k_bool_str, DL.k_bool_tuple, DL.k_bool_list, DL.k_bool_bool, DL.k_int_int, DL.k_int_str, DL.k_int_tuple, DL.k_int_list, DL.k_int_bool, DL.k_str_int, DL.k_str_str, DL.k_str_tuple, DL.k_str_list, DL.k_str_bool, DL.k_list_int, DL.k_list_str, DL.k_list_tuple, DL.k_list_list, DL.k_list_bool, DL.k_tuple_int, DL.k_tuple_str, DL.k_tuple_tuple, DL.k_tuple_list, DL.k_tuple_bool, DL.k_dict_int, DL.k_dict_str, DL.k_dict_tuple, DL.k_dict_list, DL.k_dict_bool, DL.runDef, DL.sSeq, DL.sIf, DL.sE, DL.sSet, DL.sRet, DL.sNx, DL.sPar, DL.assign, DL.free_z, DL.free_s, DL.okB_u, DL.okB_v, DL.okB_o, DL.fresh, DL.toD, DL.peek, DL.peeks, DL.giv, DL.eC, DL.eVar, DL.eUn, DL.eBin, DL.eT, DL.eB, DL.tNotE, DL.tAndE, DL.tOrE, DL.eIf, DL.eNot, DL.eAnd, DL.eOr, DL.eChain, DL.eDs, DL.eTup, DL.eLst, DL.eVs, DL.eBi, DL.eDct, DL.eKs, DL.mergeD, DL.sPut, DL.sFor, DL.sAsg, DL.tgN, DL.tgT, DL.tgs, DL.eMut, DL.gAppend, DL.eM1, DL.eFmt, DL.eJs, DL.eSl, DL.ePart, DL.gIx, DL.keyD, DL.gAdd, DL.gSub, DL.gMul, DL.gMod, DL.gDiv, DL.gPow, DL.gLt, DL.gLe, DL.gGt, DL.gGe, DL.gIs, DL.gIsNot, DL.isNon, DL.gIsi, DL.tyD, DL.gLen, DL.gTuple, DL.sv, DL.truth, DL.eCall, DL.eArgs, DL.callF, DL.slotsOf, DL.countIo, DL.ioOf, DL.borsOf, DL.borOk, DL.back1, DL.putBack, DL.nolR, DL.nolM, DL.nolO, DL.fin, DL.ioM, DL.M.toD, DL.bind_ok, DL.bind_no, Option.bind_some, Option.bind_none, Option.map_some, Option.map_none, List.length_cons, List.length_nil, List.length_append, List.length_map, List.append_nil, List.nil_append, List.cons_append, List.map_cons, List.map_nil, List.replicate, List.getElem?_cons_zero, List.getElem?_cons_succ, List.getElem?_nil, List.set_cons_zero, List.set_cons_succ, Nat.zero_add, Nat.add_zero, Nat.reduceAdd, Nat.reduceSub, if_true, if_false, Bool.not_true, Bool.not_false, Bool.and_self, Bool.and_true, Bool.true_and, Bool.or_true, Bool.true_or, Bool.false_or, Bool.or_false, List.isEmpty_nil, List.isEmpty_cons, if_pos, reduceIte, Bool.false_eq_true, eq_self, and_self, and_true, true_and, ↓reduceIte, Nat.le_refl, reduceCtorEq, Nat.sub_self, List.all_cons, List.all_nil, Bool.false_and, Nat.zero_le, Nat.reduceLeDiff, Nat.reduceEqDiff, Int.cast_ofNat_Int, Int.reduceLE, Int.reduceLT, Int.reduceEq, Int.reduceNe, Int.reduceAdd, Int.reduceSub, Int.reduceMul, Int.reduceNeg, Int.reduceToNat, decide_true, decide_false, ne_eq, not_true_eq_false, not_false_eq_true]
  have s6 : sSet 8 (eIf (eB (eBin gEq (eVar 6) (eC (.str "-")))) (eC (.str "")) (eVar 6)) [.v (.int n), .v (.str (rowS p)), .v (.lst (qs.map pD)), .v (.lst [.str p.nm, .str (wd p), .str (numS p.tk)]), .v (.lst ((qs.map Prs.nm).map D.str)), .v (.str p.nm), .v (.str (wd p)), .v (.str (numS p.tk)), .u, .u, .u, .u] = .ok .nx [.v (.int n), .v (.str (rowS p)), .v (.lst (qs.map pD)), .v (.lst [.str p.nm, .str (wd p), .str (numS p.tk)]), .v (.lst ((qs.map Prs.nm).map D.str)), .v (.str p.nm), .v (.str (wd p)), .v (.str (numS p.tk)), .v (.str p.ab), .u, .u, .u] := by
    have e := str_eq (wd_str o) dash_str
    by_cases h : p.ab = Str.ofString ""
    · have wp : wd p = Str.ofString "-" := if_pos h
      rw [decide_eq_true wp] at e
      simp only [e, h, DL.le_size, DL.lt_size, Int.reducePow, Nat.reducePow, Int.reduceLT, or_true, true_or, or_false, false_or, or_self, DL.k_NoneType_int, DL.k_NoneType_str, DL.k_NoneType_tuple, DL.k_NoneType_list, DL.k_NoneType_bool, DL.k_bool_int, DL.k_bool_str, DL.k_bool_tuple, DL.k_bool_list, DL.k_bool_bool, DL.k_int_int, DL.k_int_str, DL.k_int_tuple, DL.k_int_list, DL.k_int_bool, DL.k_str_int, DL.k_str_str, DL.k_str_tuple, DL.k_str_list, DL.k_str_bool, DL.k_list_int, DL.k_list_str, DL.k_list_tuple, DL.k_list_list, DL.k_list_bool, DL.k_tuple_int, DL.k_tuple_str, DL.k_tuple_tuple, DL.k_tuple_list, DL.k_tuple_bool, DL.k_dict_int, DL.k_dict_str, DL.k_dict_tuple, DL.k_dict_list, DL.k_dict_bool, DL.runDef, DL.sSeq, DL.sIf, DL.sE, DL.sSet, DL.sRet, DL.sNx, DL.sPar, DL.assign, DL.free_z, DL.free_s, DL.okB_u, DL.okB_v, DL.okB_o, DL.fresh, DL.toD, DL.peek, DL.peeks, DL.giv, DL.eC, DL.eVar, DL.eUn, DL.eBin, DL.eT, DL.eB, DL.tNotE, DL.tAndE, DL.tOrE, DL.eIf, DL.eNot, DL.eAnd, DL.eOr, DL.eChain, DL.eDs, DL.eTup, DL.eLst, DL.eVs, DL.eBi, DL.eDct, DL.eKs, DL.mergeD, DL.sPut, DL.sFor, DL.sAsg, DL.tgN, DL.tgT, DL.tgs, DL.eMut, DL.gAppend, DL.eM1, DL.eFmt, DL.eJs, DL.eSl, DL.ePart, DL.gIx, DL.keyD, DL.gAdd, DL.gSub, DL.gMul, DL.gMod, DL.gDiv, DL.gPow, DL.gLt, DL.gLe, DL.gGt, DL.gGe, DL.gIs, DL.gIsNot, DL.isNon, DL.gIsi, DL.tyD, DL.gLen, DL.gTuple, DL.sv, DL.truth, DL.eCall, DL.eArgs, DL.callF, DL.slotsOf, DL.countIo, DL.ioOf, DL.borsOf, DL.borOk, DL.back1, DL.putBack, DL.nolR, DL.nolM, DL.nolO, DL.fin, DL.ioM, DL.M.toD, DL.bind_ok, DL.bind_no, Option.bind_some, Option.bind_none, Option.map_some, Option.map_none, List.length_cons, List.length_nil, List.length_append, List.length_map, List.append_nil, List.nil_append, List.cons_append, List.map_cons, List.map_nil, List.replicate, List.getElem?_cons_zero, List.getElem?_cons_succ, List.getElem?_nil, List.set_cons_zero, List.set_cons_succ, Nat.zero_add, Nat.add_zero, Nat.reduceAdd, Nat.reduceSub, if_true, if_false, Bool.not_true, Bool.not_false, Bool.and_self, Bool.and_true, Bool.true_and, Bool.or_true, Bool.true_or, Bool.false_or, Bool.or_false, List.isEmpty_nil, List.isEmpty_cons, if_pos, reduceIte, Bool.false_eq_true, eq_self, and_self, and_true, true_and, ↓reduceIte, Nat.le_refl, reduceCtorEq, Nat.sub_self, List.all_cons, List.all_nil, Bool.false_and, Nat.zero_le, Nat.reduceLeDiff, Nat.reduceEqDiff, Int.cast_ofNat_Int, Int.reduceLE, Int.reduceLT, Int.reduceEq, Int.reduceNe, Int.reduceAdd, Int.reduceSub, Int.reduceMul, Int.reduceNeg, Int.reduceToNat, decide_true, decide_false, ne_eq, not_true_eq_false, not_false_eq_true]
    · have wp : wd p = p.ab := if_neg h
      have nd : wd p ≠ Str.ofString "-" := fun z => by
        have hc : (45 : Nat) ∈ TL.tl p.ab := by rw [← wp, z, dash_tl]; simp
        have := (o.ab.resolve_left h).2.2 45 hc
        omega
      rw [decide_eq_false nd, wp] at e
      rw [wp]
      simp only [e, DL.le_size, DL.lt_size, Int.reducePow, Nat.reducePow, Int.reduceLT, or_true, true_or, or_false, false_or, or_self, DL.k_NoneType_int, DL.k_NoneType_str, DL.k_NoneType_tuple, DL.k_NoneType_list, DL.k_NoneType_bool, DL.k_bool_int, DL.k_bool_str, DL.k_bool_tuple, DL.k_bool_list, DL.k_bool_bool, DL.k_int_int, DL.k_int_str, DL.k_int_tuple, DL.k_int_list, DL.k_int_bool, DL.k_str_int, DL.k_str_str, DL.k_str_tuple, DL.k_str_list, DL.k_str_bool, DL.k_list_int, DL.k_list_str, DL.k_list_tuple, DL.k_list_list, DL.k_list_bool, DL.k_tuple_int, DL.k_tuple_str, DL.k_tuple_tuple, DL.k_tuple_list, DL.k_tuple_bool, DL.k_dict_int, DL.k_dict_str, DL.k_dict_tuple, DL.k_dict_list, DL.k_dict_bool, DL.runDef, DL.sSeq, DL.sIf, DL.sE, DL.sSet, DL.sRet, DL.sNx, DL.sPar, DL.assign, DL.free_z, DL.free_s, DL.okB_u, DL.okB_v, DL.okB_o, DL.fresh, DL.toD, DL.peek, DL.peeks, DL.giv, DL.eC, DL.eVar, DL.eUn, DL.eBin, DL.eT, DL.eB, DL.tNotE, DL.tAndE, DL.tOrE, DL.eIf, DL.eNot, DL.eAnd, DL.eOr, DL.eChain, DL.eDs, DL.eTup, DL.eLst, DL.eVs, DL.eBi, DL.eDct, DL.eKs, DL.mergeD, DL.sPut, DL.sFor, DL.sAsg, DL.tgN, DL.tgT, DL.tgs, DL.eMut, DL.gAppend, DL.eM1, DL.eFmt, DL.eJs, DL.eSl, DL.ePart, DL.gIx, DL.keyD, DL.gAdd, DL.gSub, DL.gMul, DL.gMod, DL.gDiv, DL.gPow, DL.gLt, DL.gLe, DL.gGt, DL.gGe, DL.gIs, DL.gIsNot, DL.isNon, DL.gIsi, DL.tyD, DL.gLen, DL.gTuple, DL.sv, DL.truth, DL.eCall, DL.eArgs, DL.callF, DL.slotsOf, DL.countIo, DL.ioOf, DL.borsOf, DL.borOk, DL.back1, DL.putBack, DL.nolR, DL.nolM, DL.nolO, DL.fin, DL.ioM, DL.M.toD, DL.bind_ok, DL.bind_no, Option.bind_some, Option.bind_none, Option.map_some, Option.map_none, List.length_cons, List.length_nil, List.length_append, List.length_map, List.append_nil, List.nil_append, List.cons_append, List.map_cons, List.map_nil, List.replicate, List.getElem?_cons_zero, List.getElem?_cons_succ, List.getElem?_nil, List.set_cons_zero, List.set_cons_succ, Nat.zero_add, Nat.add_zero, Nat.reduceAdd, Nat.reduceSub, if_true, if_false, Bool.not_true, Bool.not_false, Bool.and_self, Bool.and_true, Bool.true_and, Bool.or_true, Bool.true_or, Bool.false_or, Bool.or_false, List.isEmpty_nil, List.isEmpty_cons, if_pos, reduceIte, Bool.false_eq_true, eq_self, and_self, and_true, true_and, ↓reduceIte, Nat.le_refl, reduceCtorEq, Nat.sub_self, List.all_cons, List.all_nil, Bool.false_and, Nat.zero_le, Nat.reduceLeDiff, Nat.reduceEqDiff, Int.cast_ofNat_Int, Int.reduceLE, Int.reduceLT, Int.reduceEq, Int.reduceNe, Int.reduceAdd, Int.reduceSub, Int.reduceMul, Int.reduceNeg, Int.reduceToNat, decide_true, decide_false, ne_eq, not_true_eq_false, not_false_eq_true]
  refine (run_of (x := .v (pD p)) (e := [.v (.int n), .v (.str (rowS p)), .v (.lst (qs.map pD)), .v (.lst [.str p.nm, .str (wd p), .str (numS p.tk)]), .v (.lst ((qs.map Prs.nm).map D.str)), .v (.str p.nm), .v (.str (wd p)), .v (.str (numS p.tk)), .v (.str p.ab), .u, .u, .u]) ?_).trans rfl
  refine (sSeq_nx s1).trans ((sSeq_nx s2).trans ((sSeq_nx s3).trans ((sSeq_nx s4).trans ((sSeq_nx s5).trans ((sSeq_nx s6).trans ?_)))))
  simp only [nb, pD, DL.le_size, DL.lt_size, Int.reducePow, Nat.reducePow, Int.reduceLT, or_true, true_or, or_false, false_or, or_self, DL.k_NoneType_int, DL.k_NoneType_str, DL.k_NoneType_tuple, DL.k_NoneType_list, DL.k_NoneType_bool, DL.k_bool_int, DL.k_bool_str, DL.k_bool_tuple, DL.k_bool_list, DL.k_bool_bool, DL.k_int_int, DL.k_int_str, DL.k_int_tuple, DL.k_int_list, DL.k_int_bool, DL.k_str_int, DL.k_str_str, DL.k_str_tuple, DL.k_str_list, DL.k_str_bool, DL.k_list_int, DL.k_list_str, DL.k_list_tuple, DL.k_list_list, DL.k_list_bool, DL.k_tuple_int, DL.k_tuple_str, DL.k_tuple_tuple, DL.k_tuple_list, DL.k_tuple_bool, DL.k_dict_int, DL.k_dict_str, DL.k_dict_tuple, DL.k_dict_list, DL.k_dict_bool, DL.runDef, DL.sSeq, DL.sIf, DL.sE, DL.sSet, DL.sRet, DL.sNx, DL.sPar, DL.assign, DL.free_z, DL.free_s, DL.okB_u, DL.okB_v, DL.okB_o, DL.fresh, DL.toD, DL.peek, DL.peeks, DL.giv, DL.eC, DL.eVar, DL.eUn, DL.eBin, DL.eT, DL.eB, DL.tNotE, DL.tAndE, DL.tOrE, DL.eIf, DL.eNot, DL.eAnd, DL.eOr, DL.eChain, DL.eDs, DL.eTup, DL.eLst, DL.eVs, DL.eBi, DL.eDct, DL.eKs, DL.mergeD, DL.sPut, DL.sFor, DL.sAsg, DL.tgN, DL.tgT, DL.tgs, DL.eMut, DL.gAppend, DL.eM1, DL.eFmt, DL.eJs, DL.eSl, DL.ePart, DL.gIx, DL.keyD, DL.gAdd, DL.gSub, DL.gMul, DL.gMod, DL.gDiv, DL.gPow, DL.gLt, DL.gLe, DL.gGt, DL.gGe, DL.gIs, DL.gIsNot, DL.isNon, DL.gIsi, DL.tyD, DL.gLen, DL.gTuple, DL.sv, DL.truth, DL.eCall, DL.eArgs, DL.callF, DL.slotsOf, DL.countIo, DL.ioOf, DL.borsOf, DL.borOk, DL.back1, DL.putBack, DL.nolR, DL.nolM, DL.nolO, DL.fin, DL.ioM, DL.M.toD, DL.bind_ok, DL.bind_no, Option.bind_some, Option.bind_none, Option.map_some, Option.map_none, List.length_cons, List.length_nil, List.length_append, List.length_map, List.append_nil, List.nil_append, List.cons_append, List.map_cons, List.map_nil, List.replicate, List.getElem?_cons_zero, List.getElem?_cons_succ, List.getElem?_nil, List.set_cons_zero, List.set_cons_succ, Nat.zero_add, Nat.add_zero, Nat.reduceAdd, Nat.reduceSub, if_true, if_false, Bool.not_true, Bool.not_false, Bool.and_self, Bool.and_true, Bool.true_and, Bool.or_true, Bool.true_or, Bool.false_or, Bool.or_false, List.isEmpty_nil, List.isEmpty_cons, if_pos, reduceIte, Bool.false_eq_true, eq_self, and_self, and_true, true_and, ↓reduceIte, Nat.le_refl, reduceCtorEq, Nat.sub_self, List.all_cons, List.all_nil, Bool.false_and, Nat.zero_le, Nat.reduceLeDiff, Nat.reduceEqDiff, Int.cast_ofNat_Int, Int.reduceLE, Int.reduceLT, Int.reduceEq, Int.reduceNe, Int.reduceAdd, Int.reduceSub, Int.reduceMul, Int.reduceNeg, Int.reduceToNat, decide_true, decide_false, ne_eq, not_true_eq_false, not_false_eq_true]
theorem text_len {w d : Int} {ps : List Prs} (g : Goods ps) (l : ps.length ≤ 16) (w0 : 1 ≤ w) (w1 : w ≤ 60) (d0 : 0 ≤ d) (d1 : d ≤ 4) : (textS w d ps).length ≤ 1000 := by
  have jl : ∀ (S : List Nat) (xs : List (List Nat)), (TL.joinL S xs).length ≤ (xs.map List.length).sum + xs.length * S.length := fun S xs => by
    induction xs with
    | nil => simp [TL.joinL]
    | cons a r ih =>
      cases r with
      | nil => simp [TL.joinL]
      | cons b r =>
        show (a ++ (S ++ TL.joinL S (b :: r))).length ≤ _
        rw [List.length_append, List.length_append, List.map_cons, List.sum_cons, List.length_cons, Nat.succ_mul]
        omega
  have h := jl (TL.tl (Str.ofString "\n")) ((headS w d :: ps.map rowS).map TL.tl)
  rw [← TL.tl_join, ← TL.join_eq] at h
  have e : (TL.tl (textS w d ps)).length = (textS w d ps).length := Array.length_toList
  have hl := head_len w0 w1 d0 d1
  have s1 := sum_le (fun p => (rowS p).length) 20 ps fun p hp => row_len (g.each p hp)
  have e2 : ((((headS w d :: ps.map rowS).map TL.tl).map List.length).sum) = (headS w d).length + (ps.map fun p => (rowS p).length).sum := by
    rw [List.map_cons, List.map_cons, List.sum_cons, List.map_map, List.map_map]
    rfl
  rw [e2, nl_tl] at h
  simp only [List.length_map, List.length_cons, List.length_nil] at h
  have h' : (textS w d ps).length ≤ (headS w d).length + (ps.map fun p => (rowS p).length).sum + (ps.length + 1) * (0 + 1) := by
    rw [← e]
    exact h
  omega
theorem readt_ok {w d : Int} {ps : List Prs} (g : Goods ps) (l : ps.length ≤ 16) (w0 : 1 ≤ w) (w1 : w ≤ 60) (d0 : 0 ≤ d) (d1 : d ≤ 4) : F_read_tree [.v (.str (textS w d ps))] = .ok (.v (treeD w d ps)) none := by
  have tl := text_len g l w0 w1 d0 d1
  have sl : ((Str.ofString "\n").length == 0) = false := by decide +kernel
  have sp : gSplit (textS w d ps) (.str (Str.ofString "\n")) = some (.m (.l (.str (headS w d) :: ps.map fun p => .str (rowS p)))) := by
    unfold gSplit
    dsimp only
    rw [if_pos ⟨sl, Nat.le_trans (by omega : (textS w d ps).length + 2 ≤ 1002) (by decide)⟩, rows_split g w0 w1 d0 d1, List.map_cons, List.map_map]
    rfl
  have rh := rhead_ok w0 w1 d0 d1
  have a0 : ∀ r : List D, L2.atI (D.str (headS w d) :: r) 0 = some (.str (headS w d)) := fun r => by
    unfold L2.atI L2.ixN
    rw [if_pos (by decide), if_pos (by rw [List.length_cons]; omega)]
    rfl
  have ro : F_rows_of [.v (.str (textS w d ps))] = .ok (.m (.l (.str (headS w d) :: ps.map fun p => .str (rowS p)))) none := by
    simp only [F_rows_of, b_rows_of, sp, DL.le_size, DL.lt_size, Int.reducePow, Nat.reducePow, Int.reduceLT, or_true, true_or, or_false, false_or, or_self, DL.k_NoneType_int, DL.k_NoneType_str, DL.k_NoneType_tuple, DL.k_NoneType_list, DL.k_NoneType_bool, DL.k_bool_int, DL.k_bool_str, DL.k_bool_tuple, DL.k_bool_list, DL.k_bool_bool, DL.k_int_int, DL.k_int_str, DL.k_int_tuple, DL.k_int_list, DL.k_int_bool, DL.k_str_int, DL.k_str_str, DL.k_str_tuple, DL.k_str_list, DL.k_str_bool, DL.k_list_int, DL.k_list_str, DL.k_list_tuple, DL.k_list_list, DL.k_list_bool, DL.k_tuple_int, DL.k_tuple_str, DL.k_tuple_tuple, DL.k_tuple_list, DL.k_tuple_bool, DL.k_dict_int, DL.k_dict_str, DL.k_dict_tuple, DL.k_dict_list, DL.k_dict_bool, DL.runDef, DL.sSeq, DL.sIf, DL.sE, DL.sSet, DL.sRet, DL.sNx, DL.sPar, DL.assign, DL.free_z, DL.free_s, DL.okB_u, DL.okB_v, DL.okB_o, DL.fresh, DL.toD, DL.peek, DL.peeks, DL.giv, DL.eC, DL.eVar, DL.eUn, DL.eBin, DL.eT, DL.eB, DL.tNotE, DL.tAndE, DL.tOrE, DL.eIf, DL.eNot, DL.eAnd, DL.eOr, DL.eChain, DL.eDs, DL.eTup, DL.eLst, DL.eVs, DL.eBi, DL.eDct, DL.eKs, DL.mergeD, DL.sPut, DL.sFor, DL.sAsg, DL.tgN, DL.tgT, DL.tgs, DL.eMut, DL.gAppend, DL.eM1, DL.eFmt, DL.eJs, DL.eSl, DL.ePart, DL.gIx, DL.keyD, DL.gAdd, DL.gSub, DL.gMul, DL.gMod, DL.gDiv, DL.gPow, DL.gLt, DL.gLe, DL.gGt, DL.gGe, DL.gIs, DL.gIsNot, DL.isNon, DL.gIsi, DL.tyD, DL.gLen, DL.gTuple, DL.sv, DL.truth, DL.eCall, DL.eArgs, DL.callF, DL.slotsOf, DL.countIo, DL.ioOf, DL.borsOf, DL.borOk, DL.back1, DL.putBack, DL.nolR, DL.nolM, DL.nolO, DL.fin, DL.ioM, DL.M.toD, DL.bind_ok, DL.bind_no, Option.bind_some, Option.bind_none, Option.map_some, Option.map_none, List.length_cons, List.length_nil, List.length_append, List.length_map, List.append_nil, List.nil_append, List.cons_append, List.map_cons, List.map_nil, List.replicate, List.getElem?_cons_zero, List.getElem?_cons_succ, List.getElem?_nil, List.set_cons_zero, List.set_cons_succ, Nat.zero_add, Nat.add_zero, Nat.reduceAdd, Nat.reduceSub, if_true, if_false, Bool.not_true, Bool.not_false, Bool.and_self, Bool.and_true, Bool.true_and, Bool.or_true, Bool.true_or, Bool.false_or, Bool.or_false, List.isEmpty_nil, List.isEmpty_cons, if_pos, reduceIte, Bool.false_eq_true, eq_self, and_self, and_true, true_and, ↓reduceIte, Nat.le_refl, reduceCtorEq, Nat.sub_self, List.all_cons, List.all_nil, Bool.false_and, Nat.zero_le, Nat.reduceLeDiff, Nat.reduceEqDiff, Int.cast_ofNat_Int, Int.reduceLE, Int.reduceLT, Int.reduceEq, Int.reduceNe, Int.reduceAdd, Int.reduceSub, Int.reduceMul, Int.reduceNeg, Int.reduceToNat, decide_true, decide_false, ne_eq, not_true_eq_false, not_false_eq_true]
  have s1 : sSet 1 (eCall F_rows_of 1 none [] [(.v, eVar 0)]) [.v (.str (textS w d ps)), .u, .u, .u, .u, .u, .u] = .ok .nx [.v (.str (textS w d ps)), .o false false (.l (.str (headS w d) :: ps.map fun p => .str (rowS p))), .u, .u, .u, .u, .u] := by
    simp only [ro, DL.le_size, DL.lt_size, Int.reducePow, Nat.reducePow, Int.reduceLT, or_true, true_or, or_false, false_or, or_self, DL.k_NoneType_int, DL.k_NoneType_str, DL.k_NoneType_tuple, DL.k_NoneType_list, DL.k_NoneType_bool, DL.k_bool_int, DL.k_bool_str, DL.k_bool_tuple, DL.k_bool_list, DL.k_bool_bool, DL.k_int_int, DL.k_int_str, DL.k_int_tuple, DL.k_int_list, DL.k_int_bool, DL.k_str_int, DL.k_str_str, DL.k_str_tuple, DL.k_str_list, DL.k_str_bool, DL.k_list_int, DL.k_list_str, DL.k_list_tuple, DL.k_list_list, DL.k_list_bool, DL.k_tuple_int, DL.k_tuple_str, DL.k_tuple_tuple, DL.k_tuple_list, DL.k_tuple_bool, DL.k_dict_int, DL.k_dict_str, DL.k_dict_tuple, DL.k_dict_list, DL.k_dict_bool, DL.runDef, DL.sSeq, DL.sIf, DL.sE, DL.sSet, DL.sRet, DL.sNx, DL.sPar, DL.assign, DL.free_z, DL.free_s, DL.okB_u, DL.okB_v, DL.okB_o, DL.fresh, DL.toD, DL.peek, DL.peeks, DL.giv, DL.eC, DL.eVar, DL.eUn, DL.eBin, DL.eT, DL.eB, DL.tNotE, DL.tAndE, DL.tOrE, DL.eIf, DL.eNot, DL.eAnd, DL.eOr, DL.eChain, DL.eDs, DL.eTup, DL.eLst, DL.eVs, DL.eBi, DL.eDct, DL.eKs, DL.mergeD, DL.sPut, DL.sFor, DL.sAsg, DL.tgN, DL.tgT, DL.tgs, DL.eMut, DL.gAppend, DL.eM1, DL.eFmt, DL.eJs, DL.eSl, DL.ePart, DL.gIx, DL.keyD, DL.gAdd, DL.gSub, DL.gMul, DL.gMod, DL.gDiv, DL.gPow, DL.gLt, DL.gLe, DL.gGt, DL.gGe, DL.gIs, DL.gIsNot, DL.isNon, DL.gIsi, DL.tyD, DL.gLen, DL.gTuple, DL.sv, DL.truth, DL.eCall, DL.eArgs, DL.callF, DL.slotsOf, DL.countIo, DL.ioOf, DL.borsOf, DL.borOk, DL.back1, DL.putBack, DL.nolR, DL.nolM, DL.nolO, DL.fin, DL.ioM, DL.M.toD, DL.bind_ok, DL.bind_no, Option.bind_some, Option.bind_none, Option.map_some, Option.map_none, List.length_cons, List.length_nil, List.length_append, List.length_map, List.append_nil, List.nil_append, List.cons_append, List.map_cons, List.map_nil, List.replicate, List.getElem?_cons_zero, List.getElem?_cons_succ, List.getElem?_nil, List.set_cons_zero, List.set_cons_succ, Nat.zero_add, Nat.add_zero, Nat.reduceAdd, Nat.reduceSub, if_true, if_false, Bool.not_true, Bool.not_false, Bool.and_self, Bool.and_true, Bool.true_and, Bool.or_true, Bool.true_or, Bool.false_or, Bool.or_false, List.isEmpty_nil, List.isEmpty_cons, if_pos, reduceIte, Bool.false_eq_true, eq_self, and_self, and_true, true_and, ↓reduceIte, Nat.le_refl, reduceCtorEq, Nat.sub_self, List.all_cons, List.all_nil, Bool.false_and, Nat.zero_le, Nat.reduceLeDiff, Nat.reduceEqDiff, Int.cast_ofNat_Int, Int.reduceLE, Int.reduceLT, Int.reduceEq, Int.reduceNe, Int.reduceAdd, Int.reduceSub, Int.reduceMul, Int.reduceNeg, Int.reduceToNat, decide_true, decide_false, ne_eq, not_true_eq_false, not_false_eq_true]
  have s2 : sAsg (tgT [tgN 2, tgN 3]) (eCall F_read_head 3 none [] [(.v, eC (.int 1)), (.v, eBin gIx (eVar 1) (eC (.int 0))), (.v, eC (.int 4))]) [.v (.str (textS w d ps)), .o false false (.l (.str (headS w d) :: ps.map fun p => .str (rowS p))), .u, .u, .u, .u, .u] = .ok .nx [.v (.str (textS w d ps)), .o false false (.l (.str (headS w d) :: ps.map fun p => .str (rowS p))), .v (.int w), .v (.int d), .u, .u, .u] := by
    simp only [a0, rh, DL.le_size, DL.lt_size, Int.reducePow, Nat.reducePow, Int.reduceLT, or_true, true_or, or_false, false_or, or_self, DL.k_NoneType_int, DL.k_NoneType_str, DL.k_NoneType_tuple, DL.k_NoneType_list, DL.k_NoneType_bool, DL.k_bool_int, DL.k_bool_str, DL.k_bool_tuple, DL.k_bool_list, DL.k_bool_bool, DL.k_int_int, DL.k_int_str, DL.k_int_tuple, DL.k_int_list, DL.k_int_bool, DL.k_str_int, DL.k_str_str, DL.k_str_tuple, DL.k_str_list, DL.k_str_bool, DL.k_list_int, DL.k_list_str, DL.k_list_tuple, DL.k_list_list, DL.k_list_bool, DL.k_tuple_int, DL.k_tuple_str, DL.k_tuple_tuple, DL.k_tuple_list, DL.k_tuple_bool, DL.k_dict_int, DL.k_dict_str, DL.k_dict_tuple, DL.k_dict_list, DL.k_dict_bool, DL.runDef, DL.sSeq, DL.sIf, DL.sE, DL.sSet, DL.sRet, DL.sNx, DL.sPar, DL.assign, DL.free_z, DL.free_s, DL.okB_u, DL.okB_v, DL.okB_o, DL.fresh, DL.toD, DL.peek, DL.peeks, DL.giv, DL.eC, DL.eVar, DL.eUn, DL.eBin, DL.eT, DL.eB, DL.tNotE, DL.tAndE, DL.tOrE, DL.eIf, DL.eNot, DL.eAnd, DL.eOr, DL.eChain, DL.eDs, DL.eTup, DL.eLst, DL.eVs, DL.eBi, DL.eDct, DL.eKs, DL.mergeD, DL.sPut, DL.sFor, DL.sAsg, DL.tgN, DL.tgT, DL.tgs, DL.eMut, DL.gAppend, DL.eM1, DL.eFmt, DL.eJs, DL.eSl, DL.ePart, DL.gIx, DL.keyD, DL.gAdd, DL.gSub, DL.gMul, DL.gMod, DL.gDiv, DL.gPow, DL.gLt, DL.gLe, DL.gGt, DL.gGe, DL.gIs, DL.gIsNot, DL.isNon, DL.gIsi, DL.tyD, DL.gLen, DL.gTuple, DL.sv, DL.truth, DL.eCall, DL.eArgs, DL.callF, DL.slotsOf, DL.countIo, DL.ioOf, DL.borsOf, DL.borOk, DL.back1, DL.putBack, DL.nolR, DL.nolM, DL.nolO, DL.fin, DL.ioM, DL.M.toD, DL.bind_ok, DL.bind_no, Option.bind_some, Option.bind_none, Option.map_some, Option.map_none, List.length_cons, List.length_nil, List.length_append, List.length_map, List.append_nil, List.nil_append, List.cons_append, List.map_cons, List.map_nil, List.replicate, List.getElem?_cons_zero, List.getElem?_cons_succ, List.getElem?_nil, List.set_cons_zero, List.set_cons_succ, Nat.zero_add, Nat.add_zero, Nat.reduceAdd, Nat.reduceSub, if_true, if_false, Bool.not_true, Bool.not_false, Bool.and_self, Bool.and_true, Bool.true_and, Bool.or_true, Bool.true_or, Bool.false_or, Bool.or_false, List.isEmpty_nil, List.isEmpty_cons, if_pos, reduceIte, Bool.false_eq_true, eq_self, and_self, and_true, true_and, ↓reduceIte, Nat.le_refl, reduceCtorEq, Nat.sub_self, List.all_cons, List.all_nil, Bool.false_and, Nat.zero_le, Nat.reduceLeDiff, Nat.reduceEqDiff, Int.cast_ofNat_Int, Int.reduceLE, Int.reduceLT, Int.reduceEq, Int.reduceNe, Int.reduceAdd, Int.reduceSub, Int.reduceMul, Int.reduceNeg, Int.reduceToNat, decide_true, decide_false, ne_eq, not_true_eq_false, not_false_eq_true]
  have s3 : sSet 4 (eLst []) [.v (.str (textS w d ps)), .o false false (.l (.str (headS w d) :: ps.map fun p => .str (rowS p))), .v (.int w), .v (.int d), .u, .u, .u] = .ok .nx [.v (.str (textS w d ps)), .o false false (.l (.str (headS w d) :: ps.map fun p => .str (rowS p))), .v (.int w), .v (.int d), .o false false (.l []), .u, .u] := by
    simp only [eC, DL.le_size, DL.lt_size, Int.reducePow, Nat.reducePow, Int.reduceLT, or_true, true_or, or_false, false_or, or_self, DL.k_NoneType_int, DL.k_NoneType_str, DL.k_NoneType_tuple, DL.k_NoneType_list, DL.k_NoneType_bool, DL.k_bool_int, DL.k_bool_str, DL.k_bool_tuple, DL.k_bool_list, DL.k_bool_bool, DL.k_int_int, DL.k_int_str, DL.k_int_tuple, DL.k_int_list, DL.k_int_bool, DL.k_str_int, DL.k_str_str, DL.k_str_tuple, DL.k_str_list, DL.k_str_bool, DL.k_list_int, DL.k_list_str, DL.k_list_tuple, DL.k_list_list, DL.k_list_bool, DL.k_tuple_int, DL.k_tuple_str, DL.k_tuple_tuple, DL.k_tuple_list, DL.k_tuple_bool, DL.k_dict_int, DL.k_dict_str, DL.k_dict_tuple, DL.k_dict_list, DL.k_dict_bool, DL.runDef, DL.sSeq, DL.sIf, DL.sE, DL.sSet, DL.sRet, DL.sNx, DL.sPar, DL.assign, DL.free_z, DL.free_s, DL.okB_u, DL.okB_v, DL.okB_o, DL.fresh, DL.toD, DL.peek, DL.peeks, DL.giv, DL.eC, DL.eVar, DL.eUn, DL.eBin, DL.eT, DL.eB, DL.tNotE, DL.tAndE, DL.tOrE, DL.eIf, DL.eNot, DL.eAnd, DL.eOr, DL.eChain, DL.eDs, DL.eTup, DL.eLst, DL.eVs, DL.eBi, DL.eDct, DL.eKs, DL.mergeD, DL.sPut, DL.sFor, DL.sAsg, DL.tgN, DL.tgT, DL.tgs, DL.eMut, DL.gAppend, DL.eM1, DL.eFmt, DL.eJs, DL.eSl, DL.ePart, DL.gIx, DL.keyD, DL.gAdd, DL.gSub, DL.gMul, DL.gMod, DL.gDiv, DL.gPow, DL.gLt, DL.gLe, DL.gGt, DL.gGe, DL.gIs, DL.gIsNot, DL.isNon, DL.gIsi, DL.tyD, DL.gLen, DL.gTuple, DL.sv, DL.truth, DL.eCall, DL.eArgs, DL.callF, DL.slotsOf, DL.countIo, DL.ioOf, DL.borsOf, DL.borOk, DL.back1, DL.putBack, DL.nolR, DL.nolM, DL.nolO, DL.fin, DL.ioM, DL.M.toD, DL.bind_ok, DL.bind_no, Option.bind_some, Option.bind_none, Option.map_some, Option.map_none, List.length_cons, List.length_nil, List.length_append, List.length_map, List.append_nil, List.nil_append, List.cons_append, List.map_cons, List.map_nil, List.replicate, List.getElem?_cons_zero, List.getElem?_cons_succ, List.getElem?_nil, List.set_cons_zero, List.set_cons_succ, Nat.zero_add, Nat.add_zero, Nat.reduceAdd, Nat.reduceSub, if_true, if_false, Bool.not_true, Bool.not_false, Bool.and_self, Bool.and_true, Bool.true_and, Bool.or_true, Bool.true_or, Bool.false_or, Bool.or_false, List.isEmpty_nil, List.isEmpty_cons, if_pos, reduceIte, Bool.false_eq_true, eq_self, and_self, and_true, true_and, ↓reduceIte, Nat.le_refl, reduceCtorEq, Nat.sub_self, List.all_cons, List.all_nil, Bool.false_and, Nat.zero_le, Nat.reduceLeDiff, Nat.reduceEqDiff, Int.cast_ofNat_Int, Int.reduceLE, Int.reduceLT, Int.reduceEq, Int.reduceNe, Int.reduceAdd, Int.reduceSub, Int.reduceMul, Int.reduceNeg, Int.reduceToNat, decide_true, decide_false, ne_eq, not_true_eq_false, not_false_eq_true]
  have loop : ∃ e', forL (tgT [tgN 5, tgN 6]) f0_read_tree (enumD 2 (ps.map fun p => .str (rowS p))) [.v (.str (textS w d ps)), .o false false (.l (.str (headS w d) :: ps.map fun p => .str (rowS p))), .v (.int w), .v (.int d), .o false false (.l []), .u, .u] = .ok .nx e' ∧ ∃ s5 s6, e' = [.v (.str (textS w d ps)), .o false false (.l (.str (headS w d) :: ps.map fun p => .str (rowS p))), .v (.int w), .v (.int d), .o false false (.l ((ps.take (enumD 2 (ps.map fun p => .str (rowS p))).length).map pD)), s5, s6] ∧ okB s5 = true ∧ okB s6 = true := by
    refine forL_run (fun i e => ∃ s5 s6, e = [.v (.str (textS w d ps)), .o false false (.l (.str (headS w d) :: ps.map fun p => .str (rowS p))), .v (.int w), .v (.int d), .o false false (.l ((ps.take i).map pD)), s5, s6] ∧ okB s5 = true ∧ okB s6 = true) ⟨.u, .u, by simp, rfl, rfl⟩ fun i x e hd hi => ?_
    obtain ⟨s5, s6, rfl, o5, o6⟩ := hi
    have il := (List.getElem?_eq_some_iff.mp hd).1
    rw [enumD_len, List.length_map] at il
    have hp : (ps.map fun p => D.str (rowS p))[i]? = some (.str (rowS ps[i])) := by rw [List.getElem?_map, List.getElem?_eq_getElem il]; rfl
    rw [enumD_get 2 _ i _ hp] at hd
    cases hd
    obtain ⟨n, f, t0, t1, a, b⟩ := g i ps[i] (List.getElem?_eq_getElem il)
    have tkl : (ps.take i).length < 16 := by rw [List.length_take]; omega
    have rp := rperson_ok (n := 2 + (i : Nat)) (qs := ps.take i) (g.ok (List.getElem?_eq_getElem il)) f a tkl
    have z' : min i ps.length < sizeLine := Nat.lt_of_le_of_lt (by omega : min i ps.length ≤ 64) (by decide)
    have tk : ps.take (i + 1) = ps.take i ++ [ps[i]] := by rw [List.take_add_one, List.getElem?_eq_getElem il]; rfl
    have nl : nol (pD ps[i]) = true := rfl
    refine ⟨[.v (.str (textS w d ps)), .o false false (.l (.str (headS w d) :: ps.map fun p => .str (rowS p))), .v (.int w), .v (.int d), .o false false (.l ((ps.take i).map pD)), .v (.int (2 + (i : Nat))), .v (.str (rowS ps[i]))], [.v (.str (textS w d ps)), .o false false (.l (.str (headS w d) :: ps.map fun p => .str (rowS p))), .v (.int w), .v (.int d), .o false false (.l ((ps.take (i + 1)).map pD)), .v (.int (2 + (i : Nat))), .v (.str (rowS ps[i]))], ?_, ?_, ⟨_, _, rfl, rfl, rfl⟩⟩
    · simp only [o5, o6, DL.le_size, DL.lt_size, Int.reducePow, Nat.reducePow, Int.reduceLT, or_true, true_or, or_false, false_or, or_self, DL.k_NoneType_int, DL.k_NoneType_str, DL.k_NoneType_tuple, DL.k_NoneType_list, DL.k_NoneType_bool, DL.k_bool_int, DL.k_bool_str, DL.k_bool_tuple, DL.k_bool_list, DL.k_bool_bool, DL.k_int_int, DL.k_int_str, DL.k_int_tuple, DL.k_int_list, DL.k_int_bool, DL.k_str_int, DL.k_str_str, DL.k_str_tuple, DL.k_str_list, DL.k_str_bool, DL.k_list_int, DL.k_list_str, DL.k_list_tuple, DL.k_list_list, DL.k_list_bool, DL.k_tuple_int, DL.k_tuple_str, DL.k_tuple_tuple, DL.k_tuple_list, DL.k_tuple_bool, DL.k_dict_int, DL.k_dict_str, DL.k_dict_tuple, DL.k_dict_list, DL.k_dict_bool, DL.runDef, DL.sSeq, DL.sIf, DL.sE, DL.sSet, DL.sRet, DL.sNx, DL.sPar, DL.assign, DL.free_z, DL.free_s, DL.okB_u, DL.okB_v, DL.okB_o, DL.fresh, DL.toD, DL.peek, DL.peeks, DL.giv, DL.eC, DL.eVar, DL.eUn, DL.eBin, DL.eT, DL.eB, DL.tNotE, DL.tAndE, DL.tOrE, DL.eIf, DL.eNot, DL.eAnd, DL.eOr, DL.eChain, DL.eDs, DL.eTup, DL.eLst, DL.eVs, DL.eBi, DL.eDct, DL.eKs, DL.mergeD, DL.sPut, DL.sFor, DL.sAsg, DL.tgN, DL.tgT, DL.tgs, DL.eMut, DL.gAppend, DL.eM1, DL.eFmt, DL.eJs, DL.eSl, DL.ePart, DL.gIx, DL.keyD, DL.gAdd, DL.gSub, DL.gMul, DL.gMod, DL.gDiv, DL.gPow, DL.gLt, DL.gLe, DL.gGt, DL.gGe, DL.gIs, DL.gIsNot, DL.isNon, DL.gIsi, DL.tyD, DL.gLen, DL.gTuple, DL.sv, DL.truth, DL.eCall, DL.eArgs, DL.callF, DL.slotsOf, DL.countIo, DL.ioOf, DL.borsOf, DL.borOk, DL.back1, DL.putBack, DL.nolR, DL.nolM, DL.nolO, DL.fin, DL.ioM, DL.M.toD, DL.bind_ok, DL.bind_no, Option.bind_some, Option.bind_none, Option.map_some, Option.map_none, List.length_cons, List.length_nil, List.length_append, List.length_map, List.append_nil, List.nil_append, List.cons_append, List.map_cons, List.map_nil, List.replicate, List.getElem?_cons_zero, List.getElem?_cons_succ, List.getElem?_nil, List.set_cons_zero, List.set_cons_succ, Nat.zero_add, Nat.add_zero, Nat.reduceAdd, Nat.reduceSub, if_true, if_false, Bool.not_true, Bool.not_false, Bool.and_self, Bool.and_true, Bool.true_and, Bool.or_true, Bool.true_or, Bool.false_or, Bool.or_false, List.isEmpty_nil, List.isEmpty_cons, if_pos, reduceIte, Bool.false_eq_true, eq_self, and_self, and_true, true_and, ↓reduceIte, Nat.le_refl, reduceCtorEq, Nat.sub_self, List.all_cons, List.all_nil, Bool.false_and, Nat.zero_le, Nat.reduceLeDiff, Nat.reduceEqDiff, Int.cast_ofNat_Int, Int.reduceLE, Int.reduceLT, Int.reduceEq, Int.reduceNe, Int.reduceAdd, Int.reduceSub, Int.reduceMul, Int.reduceNeg, Int.reduceToNat, decide_true, decide_false, ne_eq, not_true_eq_false, not_false_eq_true]
    · rw [tk]
      simp only [f0_read_tree, rp, nl, z', List.map_append, List.length_take, List.all_nil, DL.le_size, DL.lt_size, Int.reducePow, Nat.reducePow, Int.reduceLT, or_true, true_or, or_false, false_or, or_self, DL.k_NoneType_int, DL.k_NoneType_str, DL.k_NoneType_tuple, DL.k_NoneType_list, DL.k_NoneType_bool, DL.k_bool_int, DL.k_bool_str, DL.k_bool_tuple, DL.k_bool_list, DL.k_bool_bool, DL.k_int_int, DL.k_int_str, DL.k_int_tuple, DL.k_int_list, DL.k_int_bool, DL.k_str_int, DL.k_str_str, DL.k_str_tuple, DL.k_str_list, DL.k_str_bool, DL.k_list_int, DL.k_list_str, DL.k_list_tuple, DL.k_list_list, DL.k_list_bool, DL.k_tuple_int, DL.k_tuple_str, DL.k_tuple_tuple, DL.k_tuple_list, DL.k_tuple_bool, DL.k_dict_int, DL.k_dict_str, DL.k_dict_tuple, DL.k_dict_list, DL.k_dict_bool, DL.runDef, DL.sSeq, DL.sIf, DL.sE, DL.sSet, DL.sRet, DL.sNx, DL.sPar, DL.assign, DL.free_z, DL.free_s, DL.okB_u, DL.okB_v, DL.okB_o, DL.fresh, DL.toD, DL.peek, DL.peeks, DL.giv, DL.eC, DL.eVar, DL.eUn, DL.eBin, DL.eT, DL.eB, DL.tNotE, DL.tAndE, DL.tOrE, DL.eIf, DL.eNot, DL.eAnd, DL.eOr, DL.eChain, DL.eDs, DL.eTup, DL.eLst, DL.eVs, DL.eBi, DL.eDct, DL.eKs, DL.mergeD, DL.sPut, DL.sFor, DL.sAsg, DL.tgN, DL.tgT, DL.tgs, DL.eMut, DL.gAppend, DL.eM1, DL.eFmt, DL.eJs, DL.eSl, DL.ePart, DL.gIx, DL.keyD, DL.gAdd, DL.gSub, DL.gMul, DL.gMod, DL.gDiv, DL.gPow, DL.gLt, DL.gLe, DL.gGt, DL.gGe, DL.gIs, DL.gIsNot, DL.isNon, DL.gIsi, DL.tyD, DL.gLen, DL.gTuple, DL.sv, DL.truth, DL.eCall, DL.eArgs, DL.callF, DL.slotsOf, DL.countIo, DL.ioOf, DL.borsOf, DL.borOk, DL.back1, DL.putBack, DL.nolR, DL.nolM, DL.nolO, DL.fin, DL.ioM, DL.M.toD, DL.bind_ok, DL.bind_no, Option.bind_some, Option.bind_none, Option.map_some, Option.map_none, List.length_cons, List.length_nil, List.length_append, List.length_map, List.append_nil, List.nil_append, List.cons_append, List.map_cons, List.map_nil, List.replicate, List.getElem?_cons_zero, List.getElem?_cons_succ, List.getElem?_nil, List.set_cons_zero, List.set_cons_succ, Nat.zero_add, Nat.add_zero, Nat.reduceAdd, Nat.reduceSub, if_true, if_false, Bool.not_true, Bool.not_false, Bool.and_self, Bool.and_true, Bool.true_and, Bool.or_true, Bool.true_or, Bool.false_or, Bool.or_false, List.isEmpty_nil, List.isEmpty_cons, if_pos, reduceIte, Bool.false_eq_true, eq_self, and_self, and_true, true_and, ↓reduceIte, Nat.le_refl, reduceCtorEq, Nat.sub_self, List.all_cons, List.all_nil, Bool.false_and, Nat.zero_le, Nat.reduceLeDiff, Nat.reduceEqDiff, Int.cast_ofNat_Int, Int.reduceLE, Int.reduceLT, Int.reduceEq, Int.reduceNe, Int.reduceAdd, Int.reduceSub, Int.reduceMul, Int.reduceNeg, Int.reduceToNat, decide_true, decide_false, ne_eq, not_true_eq_false, not_false_eq_true]
  obtain ⟨e', he, s5, s6, rfl, _⟩ := loop
  rw [enumD_len, List.length_map, List.take_length] at he
  have cf : cutD (D.str (headS w d) :: ps.map fun p => .str (rowS p)) (some 1) none = ps.map fun p => .str (rowS p) := by
    unfold cutD
    rw [show (1 : Int) = ((1 : Nat) : Int) from rfl, HT.sIx_nat, HT.sIx_none, List.length_cons, List.length_map]
    rw [show min 1 (ps.length + 1) = 1 by omega, List.drop_one, List.tail_cons]
    exact List.take_of_length_le (by rw [List.length_map]; omega)
  have s4 : sFor (tgT [tgN 5, tgN 6]) (DL.iEnum 2 [eSl (eVar 1) (some (eC (.int 1))) none]) f0_read_tree [.v (.str (textS w d ps)), .o false false (.l (.str (headS w d) :: ps.map fun p => .str (rowS p))), .v (.int w), .v (.int d), .o false false (.l []), .u, .u] = .ok .nx [.v (.str (textS w d ps)), .o false false (.l (.str (headS w d) :: ps.map fun p => .str (rowS p))), .v (.int w), .v (.int d), .o false false (.l (ps.map pD)), s5, s6] := by
    refine Eq.trans ?_ he
    simp only [DL.iEnum, gSl, cf, DL.le_size, DL.lt_size, Int.reducePow, Nat.reducePow, Int.reduceLT, or_true, true_or, or_false, false_or, or_self, DL.k_NoneType_int, DL.k_NoneType_str, DL.k_NoneType_tuple, DL.k_NoneType_list, DL.k_NoneType_bool, DL.k_bool_int, DL.k_bool_str, DL.k_bool_tuple, DL.k_bool_list, DL.k_bool_bool, DL.k_int_int, DL.k_int_str, DL.k_int_tuple, DL.k_int_list, DL.k_int_bool, DL.k_str_int, DL.k_str_str, DL.k_str_tuple, DL.k_str_list, DL.k_str_bool, DL.k_list_int, DL.k_list_str, DL.k_list_tuple, DL.k_list_list, DL.k_list_bool, DL.k_tuple_int, DL.k_tuple_str, DL.k_tuple_tuple, DL.k_tuple_list, DL.k_tuple_bool, DL.k_dict_int, DL.k_dict_str, DL.k_dict_tuple, DL.k_dict_list, DL.k_dict_bool, DL.runDef, DL.sSeq, DL.sIf, DL.sE, DL.sSet, DL.sRet, DL.sNx, DL.sPar, DL.assign, DL.free_z, DL.free_s, DL.okB_u, DL.okB_v, DL.okB_o, DL.fresh, DL.toD, DL.peek, DL.peeks, DL.giv, DL.eC, DL.eVar, DL.eUn, DL.eBin, DL.eT, DL.eB, DL.tNotE, DL.tAndE, DL.tOrE, DL.eIf, DL.eNot, DL.eAnd, DL.eOr, DL.eChain, DL.eDs, DL.eTup, DL.eLst, DL.eVs, DL.eBi, DL.eDct, DL.eKs, DL.mergeD, DL.sPut, DL.sFor, DL.sAsg, DL.tgN, DL.tgT, DL.tgs, DL.eMut, DL.gAppend, DL.eM1, DL.eFmt, DL.eJs, DL.eSl, DL.ePart, DL.gIx, DL.keyD, DL.gAdd, DL.gSub, DL.gMul, DL.gMod, DL.gDiv, DL.gPow, DL.gLt, DL.gLe, DL.gGt, DL.gGe, DL.gIs, DL.gIsNot, DL.isNon, DL.gIsi, DL.tyD, DL.gLen, DL.gTuple, DL.sv, DL.truth, DL.eCall, DL.eArgs, DL.callF, DL.slotsOf, DL.countIo, DL.ioOf, DL.borsOf, DL.borOk, DL.back1, DL.putBack, DL.nolR, DL.nolM, DL.nolO, DL.fin, DL.ioM, DL.M.toD, DL.bind_ok, DL.bind_no, Option.bind_some, Option.bind_none, Option.map_some, Option.map_none, List.length_cons, List.length_nil, List.length_append, List.length_map, List.append_nil, List.nil_append, List.cons_append, List.map_cons, List.map_nil, List.replicate, List.getElem?_cons_zero, List.getElem?_cons_succ, List.getElem?_nil, List.set_cons_zero, List.set_cons_succ, Nat.zero_add, Nat.add_zero, Nat.reduceAdd, Nat.reduceSub, if_true, if_false, Bool.not_true, Bool.not_false, Bool.and_self, Bool.and_true, Bool.true_and, Bool.or_true, Bool.true_or, Bool.false_or, Bool.or_false, List.isEmpty_nil, List.isEmpty_cons, if_pos, reduceIte, Bool.false_eq_true, eq_self, and_self, and_true, true_and, ↓reduceIte, Nat.le_refl, reduceCtorEq, Nat.sub_self, List.all_cons, List.all_nil, Bool.false_and, Nat.zero_le, Nat.reduceLeDiff, Nat.reduceEqDiff, Int.cast_ofNat_Int, Int.reduceLE, Int.reduceLT, Int.reduceEq, Int.reduceNe, Int.reduceAdd, Int.reduceSub, Int.reduceMul, Int.reduceNeg, Int.reduceToNat, decide_true, decide_false, ne_eq, not_true_eq_false, not_false_eq_true]
  refine (run_of (x := .v (treeD w d ps)) (e := [.v (.str (textS w d ps)), .o false false (.l (.str (headS w d) :: ps.map fun p => .str (rowS p))), .v (.int w), .v (.int d), .o false false (.l (ps.map pD)), s5, s6]) ?_).trans rfl
  refine (sSeq_nx s1).trans ((sSeq_nx s2).trans ((sSeq_nx s3).trans ((sSeq_nx s4).trans ?_)))
  simp only [treeD, DL.le_size, DL.lt_size, Int.reducePow, Nat.reducePow, Int.reduceLT, or_true, true_or, or_false, false_or, or_self, DL.k_NoneType_int, DL.k_NoneType_str, DL.k_NoneType_tuple, DL.k_NoneType_list, DL.k_NoneType_bool, DL.k_bool_int, DL.k_bool_str, DL.k_bool_tuple, DL.k_bool_list, DL.k_bool_bool, DL.k_int_int, DL.k_int_str, DL.k_int_tuple, DL.k_int_list, DL.k_int_bool, DL.k_str_int, DL.k_str_str, DL.k_str_tuple, DL.k_str_list, DL.k_str_bool, DL.k_list_int, DL.k_list_str, DL.k_list_tuple, DL.k_list_list, DL.k_list_bool, DL.k_tuple_int, DL.k_tuple_str, DL.k_tuple_tuple, DL.k_tuple_list, DL.k_tuple_bool, DL.k_dict_int, DL.k_dict_str, DL.k_dict_tuple, DL.k_dict_list, DL.k_dict_bool, DL.runDef, DL.sSeq, DL.sIf, DL.sE, DL.sSet, DL.sRet, DL.sNx, DL.sPar, DL.assign, DL.free_z, DL.free_s, DL.okB_u, DL.okB_v, DL.okB_o, DL.fresh, DL.toD, DL.peek, DL.peeks, DL.giv, DL.eC, DL.eVar, DL.eUn, DL.eBin, DL.eT, DL.eB, DL.tNotE, DL.tAndE, DL.tOrE, DL.eIf, DL.eNot, DL.eAnd, DL.eOr, DL.eChain, DL.eDs, DL.eTup, DL.eLst, DL.eVs, DL.eBi, DL.eDct, DL.eKs, DL.mergeD, DL.sPut, DL.sFor, DL.sAsg, DL.tgN, DL.tgT, DL.tgs, DL.eMut, DL.gAppend, DL.eM1, DL.eFmt, DL.eJs, DL.eSl, DL.ePart, DL.gIx, DL.keyD, DL.gAdd, DL.gSub, DL.gMul, DL.gMod, DL.gDiv, DL.gPow, DL.gLt, DL.gLe, DL.gGt, DL.gGe, DL.gIs, DL.gIsNot, DL.isNon, DL.gIsi, DL.tyD, DL.gLen, DL.gTuple, DL.sv, DL.truth, DL.eCall, DL.eArgs, DL.callF, DL.slotsOf, DL.countIo, DL.ioOf, DL.borsOf, DL.borOk, DL.back1, DL.putBack, DL.nolR, DL.nolM, DL.nolO, DL.fin, DL.ioM, DL.M.toD, DL.bind_ok, DL.bind_no, Option.bind_some, Option.bind_none, Option.map_some, Option.map_none, List.length_cons, List.length_nil, List.length_append, List.length_map, List.append_nil, List.nil_append, List.cons_append, List.map_cons, List.map_nil, List.replicate, List.getElem?_cons_zero, List.getElem?_cons_succ, List.getElem?_nil, List.set_cons_zero, List.set_cons_succ, Nat.zero_add, Nat.add_zero, Nat.reduceAdd, Nat.reduceSub, if_true, if_false, Bool.not_true, Bool.not_false, Bool.and_self, Bool.and_true, Bool.true_and, Bool.or_true, Bool.true_or, Bool.false_or, Bool.or_false, List.isEmpty_nil, List.isEmpty_cons, if_pos, reduceIte, Bool.false_eq_true, eq_self, and_self, and_true, true_and, ↓reduceIte, Nat.le_refl, reduceCtorEq, Nat.sub_self, List.all_cons, List.all_nil, Bool.false_and, Nat.zero_le, Nat.reduceLeDiff, Nat.reduceEqDiff, Int.cast_ofNat_Int, Int.reduceLE, Int.reduceLT, Int.reduceEq, Int.reduceNe, Int.reduceAdd, Int.reduceSub, Int.reduceMul, Int.reduceNeg, Int.reduceToNat, decide_true, decide_false, ne_eq, not_true_eq_false, not_false_eq_true]
end K05

namespace K05
open DL PySem L2
/-! the shown texts -/
def pP (p : Prs) : PyData := .tuple [.str p.nm, .str p.ab, .int p.tk]
def treeP (w d : Int) (ps : List Prs) : PyData := .tuple [.int w, .int d, .tuple (ps.map pP)]
theorem py_p (p : Prs) : (pD p).py = some (pP p) := by
  unfold pD pP
  simp only [D.py, D.pyAll, Option.bind_some, Option.map_some]
theorem py_ps : ∀ ps : List Prs, D.pyAll (ps.map pD) = some (ps.map pP)
  | [] => by simp only [List.map_nil, D.pyAll]
  | p :: ps => by simp only [List.map_cons, D.pyAll, py_p, py_ps ps, Option.bind_some]
theorem py_tree (w d : Int) (ps : List Prs) : (treeD w d ps).py = some (treeP w d ps) := by
  unfold treeD treeP
  simp only [D.py, D.pyAll, py_ps, Option.bind_some, Option.map_some]
theorem small_int {i : Int} (h0 : 0 ≤ i) (h1 : i ≤ 60) : (PyData.int i).weight ≤ 61 := by
  simp only [PyData.weight]
  split
  · omega
  · have := Nat.log2_le_self i.natAbs
    omega
theorem p_show {p : Prs} (o : PrsOk p) : (pP p).showable = true ∧ (pP p).canLay0 = true ∧ (pP p).depth ≤ 1 ∧ (pP p).weight ≤ 100 ∧ (pP p).intsShort 13 = true := by
  have t0 := o.t0
  have t1 := o.t1
  have lg := log_ok (i := p.tk) (by omega) t1
  have sw := small_int (i := p.tk) (by omega) t1
  have n8 : p.nm.cps.size ≤ 8 := o.nm.2.1
  have a8 : p.ab.cps.size ≤ 8 := by
    rcases o.ab with h | h
    · rw [h]; exact Nat.le_trans (Nat.le_of_eq nil_len) (by decide)
    · exact h.2.1
  have sl : (PyData.int p.tk).shown.length ≤ 13 := PyData.shown_int_le (by omega)
  refine ⟨?_, ?_, ?_, ?_, ?_⟩
  · simp only [pP, PyData.showable, PyData.showableAll, decide_eq_true lg, Bool.and_self]
  · simp only [pP, PyData.canLay0, PyData.canLayAll0, o.nm.ok, ab_ok o.ab, Bool.and_self]
  · simp only [pP, PyData.depth, PyData.depthAll]; decide
  · simp only [pP, PyData.weight, PyData.weightAll] at sw ⊢
    omega
  · simp only [pP, PyData.intsShort, PyData.intsShortAll, decide_eq_true sl, Bool.and_self]
theorem ps_show : ∀ ps : List Prs, (∀ p ∈ ps, PrsOk p) → PyData.showableAll (ps.map pP) = true ∧ PyData.canLayAll0 (ps.map pP) = true ∧ PyData.depthAll (ps.map pP) ≤ 1 ∧ PyData.weightAll (ps.map pP) ≤ 101 * ps.length ∧ PyData.intsShortAll 13 (ps.map pP) = true
  | [], _ => by simp only [List.map_nil, PyData.showableAll, PyData.canLayAll0, PyData.depthAll, PyData.weightAll, PyData.intsShortAll]; simp
  | p :: ps, h => by
    obtain ⟨a1, a2, a3, a4, a5⟩ := p_show (h p List.mem_cons_self)
    obtain ⟨b1, b2, b3, b4, b5⟩ := ps_show ps fun q hq => h q (List.mem_cons_of_mem _ hq)
    simp only [List.map_cons, PyData.showableAll, PyData.canLayAll0, PyData.depthAll, PyData.weightAll, PyData.intsShortAll, a1, a2, a5, b1, b2, b5, Bool.and_self, List.length_cons, true_and, and_true]
    refine ⟨by omega, by omega⟩
theorem tree_show {w d : Int} {ps : List Prs} (g : Goods ps) (l : ps.length ≤ 16) (w0 : 1 ≤ w) (w1 : w ≤ 60) (d0 : 0 ≤ d) (d1 : d ≤ 4) : gRepr [treeD w d ps] = some (.v (.str (treeP w d ps).shown)) := by
  obtain ⟨b1, b2, b3, b4, b5⟩ := ps_show ps g.each
  have lw := log_ok (i := w) (by omega) w1
  have ld := log_ok d0 (by omega)
  have sw := small_int (i := w) (by omega) w1
  have sd := small_int d0 (by omega)
  have iw : (PyData.int w).shown.length ≤ 13 := PyData.shown_int_le (by omega)
  have id : (PyData.int d).shown.length ≤ 13 := PyData.shown_int_le (by omega)
  have h1 : (treeP w d ps).showable = true := by
    simp only [treeP, PyData.showable, PyData.showableAll, decide_eq_true lw, decide_eq_true ld, b1, Bool.and_self]
  have h2 : (treeP w d ps).canLay0 = true := by
    simp only [treeP, PyData.canLay0, PyData.canLayAll0, b2, Bool.and_self]
  have h3 : (treeP w d ps).depth ≤ 64 := by
    simp only [treeP, PyData.depth, PyData.depthAll]
    omega
  have h4 : (treeP w d ps).weight ≤ 2 ^ 20 := by
    simp only [treeP, PyData.weight, PyData.weightAll] at sw sd ⊢
    omega
  have h5 : (treeP w d ps).intsShort 13 = true := by
    simp only [treeP, PyData.intsShort, PyData.intsShortAll, decide_eq_true iw, decide_eq_true id, b5, Bool.and_self]
  have h6 : (treeP w d ps).layable0 = true := by
    unfold PyData.layable0
    rw [h2, decide_eq_true h3, decide_eq_true h4]
    rfl
  have h7 := PyData.shown_fits_of_layable0 (B := 13) (by decide) (by decide) h6 h5
  unfold gRepr
  dsimp only
  rw [py_tree]
  show (if _ then _ else _) = _
  rw [if_pos ⟨h1, PyData.hasDict_of_canLay _ h2, h3, h7⟩]
theorem right_ok {w d : Int} {ps : List Prs} (g : Goods ps) (l : ps.length ≤ 16) (w0 : 1 ≤ w) (w1 : w ≤ 60) (d0 : 0 ≤ d) (d1 : d ≤ 4) : F__law_right [.v (treeD w d ps)] = .ok (.v (.bl true)) none := by
  have lt := ltext_ok g l w0 w1 d0 d1
  have tt := text_ok g l w0 w1 d0 d1
  have rt := readt_ok g l w0 w1 d0 d1
  have sh := tree_show g l w0 w1 d0 d1
  have se : ∀ a b : Str, gEq (.str a) (.str b) = some (.v (.bl (decide (a = b)))) := fun _ _ => rfl
  simp only [F__law_right, b__law_right, lt, tt, rt, sh, se, DL.le_size, DL.lt_size, Int.reducePow, Nat.reducePow, Int.reduceLT, or_true, true_or, or_false, false_or, or_self, DL.k_NoneType_int, DL.k_NoneType_str, DL.k_NoneType_tuple, DL.k_NoneType_list, DL.k_NoneType_bool, DL.k_bool_int, DL.k_bool_str, DL.k_bool_tuple, DL.k_bool_list, DL.k_bool_bool, DL.k_int_int, DL.k_int_str, DL.k_int_tuple, DL.k_int_list, DL.k_int_bool, DL.k_str_int, DL.k_str_str, DL.k_str_tuple, DL.k_str_list, DL.k_str_bool, DL.k_list_int, DL.k_list_str, DL.k_list_tuple, DL.k_list_list, DL.k_list_bool, DL.k_tuple_int, DL.k_tuple_str, DL.k_tuple_tuple, DL.k_tuple_list, DL.k_tuple_bool, DL.k_dict_int, DL.k_dict_str, DL.k_dict_tuple, DL.k_dict_list, DL.k_dict_bool, DL.runDef, DL.sSeq, DL.sIf, DL.sE, DL.sSet, DL.sRet, DL.sNx, DL.sPar, DL.assign, DL.free_z, DL.free_s, DL.okB_u, DL.okB_v, DL.okB_o, DL.fresh, DL.toD, DL.peek, DL.peeks, DL.giv, DL.eC, DL.eVar, DL.eUn, DL.eBin, DL.eT, DL.eB, DL.tNotE, DL.tAndE, DL.tOrE, DL.eIf, DL.eNot, DL.eAnd, DL.eOr, DL.eChain, DL.eDs, DL.eTup, DL.eLst, DL.eVs, DL.eBi, DL.eDct, DL.eKs, DL.mergeD, DL.sPut, DL.sFor, DL.sAsg, DL.tgN, DL.tgT, DL.tgs, DL.eMut, DL.gAppend, DL.eM1, DL.eFmt, DL.eJs, DL.eSl, DL.ePart, DL.gIx, DL.keyD, DL.gAdd, DL.gSub, DL.gMul, DL.gMod, DL.gDiv, DL.gPow, DL.gLt, DL.gLe, DL.gGt, DL.gGe, DL.gIs, DL.gIsNot, DL.isNon, DL.gIsi, DL.tyD, DL.gLen, DL.gTuple, DL.sv, DL.truth, DL.eCall, DL.eArgs, DL.callF, DL.slotsOf, DL.countIo, DL.ioOf, DL.borsOf, DL.borOk, DL.back1, DL.putBack, DL.nolR, DL.nolM, DL.nolO, DL.fin, DL.ioM, DL.M.toD, DL.bind_ok, DL.bind_no, Option.bind_some, Option.bind_none, Option.map_some, Option.map_none, List.length_cons, List.length_nil, List.length_append, List.length_map, List.append_nil, List.nil_append, List.cons_append, List.map_cons, List.map_nil, List.replicate, List.getElem?_cons_zero, List.getElem?_cons_succ, List.getElem?_nil, List.set_cons_zero, List.set_cons_succ, Nat.zero_add, Nat.add_zero, Nat.reduceAdd, Nat.reduceSub, if_true, if_false, Bool.not_true, Bool.not_false, Bool.and_self, Bool.and_true, Bool.true_and, Bool.or_true, Bool.true_or, Bool.false_or, Bool.or_false, List.isEmpty_nil, List.isEmpty_cons, if_pos, reduceIte, Bool.false_eq_true, eq_self, and_self, and_true, true_and, ↓reduceIte, Nat.le_refl, reduceCtorEq, Nat.sub_self, List.all_cons, List.all_nil, Bool.false_and, Nat.zero_le, Nat.reduceLeDiff, Nat.reduceEqDiff, Int.cast_ofNat_Int, Int.reduceLE, Int.reduceLT, Int.reduceEq, Int.reduceNe, Int.reduceAdd, Int.reduceSub, Int.reduceMul, Int.reduceNeg, Int.reduceToNat, decide_true, decide_false, ne_eq, not_true_eq_false, not_false_eq_true]
/-! one cell of the script -/
theorem mst (c l t : Int) (r : Int) (r0 : 0 ≤ r) (r1 : r < 3) : ∃ m : Int, L2.atI [D.int 16, .int 16, .int 3] r = some (.int m) ∧ 0 ≤ m ∧ m ≤ 16 := by
  obtain ⟨x, h2, h3⟩ := atI_in (xs := [D.int 16, .int 16, .int 3]) r0 r1
  rcases List.mem_cons.mp h3 with rfl | h3
  · exact ⟨16, h2, by decide, by decide⟩
  rcases List.mem_cons.mp h3 with rfl | h3
  · exact ⟨16, h2, by decide, by decide⟩
  rcases List.mem_cons.mp h3 with rfl | h3
  · exact ⟨3, h2, by decide, by decide⟩
  cases h3
theorem cell_ok (x : D) (k c : Int) (s3 s4 s5 s6 s7 s8 s9 : DL.Slot) (o3 : okB s3 = true) (k0 : 0 ≤ k) (k1 : k ≤ 1000) : ∃ s3', f0_law [.v x, .v (.int k), .v (.int c), s3, s4, s5, s6, s7, s8, s9] = .ok .nx [.v x, .v (.int k), .v (.int c), s3', s4, s5, s6, s7, s8, s9] ∧ okB s3' = true := by
  obtain ⟨l, hd⟩ := draw_ok c k
  obtain ⟨r, l1, t1, r0, r1, r2, r3, hr⟩ := digit_ok l c (1000 * k) 3 (by omega) (by omega) (by decide) (by decide)
  obtain ⟨m, hm, m0, m1⟩ := mst c l 0 r r0 r1
  obtain ⟨l2, t2, w, d, ps, g, pl, w0, w1, d0, d1, _, _, ht⟩ := tree_ok l1 c t1 m (by omega) (by omega) m0 m1
  have rk := right_ok g.all pl w0 w1 d0 d1
  unfold treeD at rk
  refine ⟨.o false false (.d (stD l2 c t2)), ?_, rfl⟩
  simp only [f0_law, hd, hr, hm, ht, rk, o3, DL.le_size, DL.lt_size, Int.reducePow, Nat.reducePow, Int.reduceLT, or_true, true_or, or_false, false_or, or_self, DL.k_NoneType_int, DL.k_NoneType_str, DL.k_NoneType_tuple, DL.k_NoneType_list, DL.k_NoneType_bool, DL.k_bool_int, DL.k_bool_str, DL.k_bool_tuple, DL.k_bool_list, DL.k_bool_bool, DL.k_int_int, DL.k_int_str, DL.k_int_tuple, DL.k_int_list, DL.k_int_bool, DL.k_str_int, DL.k_str_str, DL.k_str_tuple, DL.k_str_list, DL.k_str_bool, DL.k_list_int, DL.k_list_str, DL.k_list_tuple, DL.k_list_list, DL.k_list_bool, DL.k_tuple_int, DL.k_tuple_str, DL.k_tuple_tuple, DL.k_tuple_list, DL.k_tuple_bool, DL.k_dict_int, DL.k_dict_str, DL.k_dict_tuple, DL.k_dict_list, DL.k_dict_bool, DL.runDef, DL.sSeq, DL.sIf, DL.sE, DL.sSet, DL.sRet, DL.sNx, DL.sPar, DL.assign, DL.free_z, DL.free_s, DL.okB_u, DL.okB_v, DL.okB_o, DL.fresh, DL.toD, DL.peek, DL.peeks, DL.giv, DL.eC, DL.eVar, DL.eUn, DL.eBin, DL.eT, DL.eB, DL.tNotE, DL.tAndE, DL.tOrE, DL.eIf, DL.eNot, DL.eAnd, DL.eOr, DL.eChain, DL.eDs, DL.eTup, DL.eLst, DL.eVs, DL.eBi, DL.eDct, DL.eKs, DL.mergeD, DL.sPut, DL.sFor, DL.sAsg, DL.tgN, DL.tgT, DL.tgs, DL.eMut, DL.gAppend, DL.eM1, DL.eFmt, DL.eJs, DL.eSl, DL.ePart, DL.gIx, DL.keyD, DL.gAdd, DL.gSub, DL.gMul, DL.gMod, DL.gDiv, DL.gPow, DL.gLt, DL.gLe, DL.gGt, DL.gGe, DL.gIs, DL.gIsNot, DL.isNon, DL.gIsi, DL.tyD, DL.gLen, DL.gTuple, DL.sv, DL.truth, DL.eCall, DL.eArgs, DL.callF, DL.slotsOf, DL.countIo, DL.ioOf, DL.borsOf, DL.borOk, DL.back1, DL.putBack, DL.nolR, DL.nolM, DL.nolO, DL.fin, DL.ioM, DL.M.toD, DL.bind_ok, DL.bind_no, Option.bind_some, Option.bind_none, Option.map_some, Option.map_none, List.length_cons, List.length_nil, List.length_append, List.length_map, List.append_nil, List.nil_append, List.cons_append, List.map_cons, List.map_nil, List.replicate, List.getElem?_cons_zero, List.getElem?_cons_succ, List.getElem?_nil, List.set_cons_zero, List.set_cons_succ, Nat.zero_add, Nat.add_zero, Nat.reduceAdd, Nat.reduceSub, if_true, if_false, Bool.not_true, Bool.not_false, Bool.and_self, Bool.and_true, Bool.true_and, Bool.or_true, Bool.true_or, Bool.false_or, Bool.or_false, List.isEmpty_nil, List.isEmpty_cons, if_pos, reduceIte, Bool.false_eq_true, eq_self, and_self, and_true, true_and, ↓reduceIte, Nat.le_refl, reduceCtorEq, Nat.sub_self, List.all_cons, List.all_nil, Bool.false_and, Nat.zero_le, Nat.reduceLeDiff, Nat.reduceEqDiff, Int.cast_ofNat_Int, Int.reduceLE, Int.reduceLT, Int.reduceEq, Int.reduceNe, Int.reduceAdd, Int.reduceSub, Int.reduceMul, Int.reduceNeg, Int.reduceToNat, decide_true, decide_false, ne_eq, not_true_eq_false, not_false_eq_true]
end K05

namespace K05
open DL PySem L2
def goodsB (ps : List Prs) : Bool := (List.range ps.length).all fun i => match ps[i]? with
  | none => true
  | some p => okNb p.nm && decide (p.nm ∉ (ps.take i).map Prs.nm) && decide (1 ≤ p.tk) && decide (p.tk ≤ 60) && (decide (p.ab = Str.ofString "") || decide (p.ab ∈ (ps.take i).map Prs.nm)) && (decide (p.ab = Str.ofString "") || okNb p.ab)
theorem goods_of {ps : List Prs} (h : goodsB ps = true) : Goods ps := by
  intro i p hp
  have l := (List.getElem?_eq_some_iff.mp hp).1
  have := List.all_eq_true.mp h i (List.mem_range.mpr l)
  rw [hp] at this
  simp only [Bool.and_eq_true, Bool.or_eq_true, decide_eq_true_eq] at this
  obtain ⟨⟨⟨⟨⟨a, b⟩, c⟩, d⟩, e⟩, f⟩ := this
  exact ⟨okN_of a, b, c, d, e, f.imp_right okN_of⟩
def hNames : List Str := (Str.ofString "abcdefghijklmnop").cps.toList.map fun c => Str.ofString "abcdefg" ++ ⟨#[c]⟩
def chainP : List Prs := (hNames.zip (Str.ofString "" :: hNames)).map fun q => ⟨q.1, q.2, 60⟩
def wideP : List Prs := hNames.reverse.map fun x => ⟨x, Str.ofString "", 1⟩
theorem chain_good : Goods chainP := goods_of (by decide +kernel)
theorem wide_good : Goods wideP := goods_of (by decide +kernel)
theorem none_good : Goods [] := goods_of (by decide +kernel)
theorem one_good : Goods [⟨Str.ofString "tree", Str.ofString "", 9⟩] := goods_of (by decide +kernel)
theorem chain_len : chainP.length ≤ 16 := by decide +kernel
theorem wide_len : wideP.length ≤ 16 := by decide +kernel
theorem ints_py : ∀ ns : List Int, intsD (ns.map D.int) = some ns
  | [] => rfl
  | n :: ns => by simp [intsD, ints_py ns]
theorem names_ok (x : D) (s1 s2 s3 : DL.Slot) : sSet 4 (eLc [7] (tgN 7) (iSeq (eC (.str "abcdefghijklmnop"))) cYes e0_law) [.v x, s1, s2, s3, .u, .u, .u, .u, .u, .u] = .ok .nx [.v x, s1, s2, s3, .o false false (.l (hNames.map D.str)), .u, .u, .u, .u, .u] := by kernel_rfl
theorem chain_ok (x : D) (s1 s2 s3 : DL.Slot) : sSet 5 (eTup [eC (.int 60), eC (.int 4), eBi gTuple [eLc [8, 9] (tgT [tgN 8, tgN 9]) (DL.iZip [eVar 4, eBin gAdd (eLst [eC (.str "")]) (eVar 4)]) cYes e1_law]]) [.v x, s1, s2, s3, .o false false (.l (hNames.map D.str)), .u, .u, .u, .u, .u] = .ok .nx [.v x, s1, s2, s3, .v (.lst (hNames.map D.str)), .v (treeD 60 4 chainP), .u, .u, .u, .u] := by kernel_rfl
theorem wide_ok (x : D) (s1 s2 s3 : DL.Slot) : sSet 6 (eTup [eC (.int 1), eC (.int 0), eBi gTuple [eLc [8] (tgN 8) (iSeq (eRev (eVar 4))) cYes e2_law]]) [.v x, s1, s2, s3, .v (.lst (hNames.map D.str)), .v (treeD 60 4 chainP), .u, .u, .u, .u] = .ok .nx [.v x, s1, s2, s3, .v (.lst (hNames.map D.str)), .v (treeD 60 4 chainP), .v (treeD 1 0 wideP), .u, .u, .u] := by kernel_rfl
theorem sl_len (ns : List Int) : (cutD (ns.map D.int) none (some 10)).length ≤ 10 := by
  rw [show (10 : Int) = ((10 : Nat) : Int) from rfl, cut_to, List.length_take]
  omega
theorem last_ok (x : D) (s1 s2 s3 : DL.Slot) (N : List D) (A C : D) (r1 : F__law_right [.v A] = .ok (.v (.bl true)) none) (r2 : F__law_right [.v C] = .ok (.v (.bl true)) none) (r3 : F__law_right [.v (.tup [.int 7, .int 3, .tup []])] = .ok (.v (.bl true)) none) (r4 : F__law_right [.v (.tup [.int 1, .int 1, .tup [.tup [.str "tree", .str "", .int 9]]])] = .ok (.v (.bl true)) none) :
    (sSeq (sIf (tOrE (tNotE (eT (eCall F__law_right 1 none [] [(.v, eVar 5)]))) (tNotE (eT (eCall F__law_right 1 none [] [(.v, eVar 6)])))) (sRet (eC (.bl false))) (sNx)) (sRet (eAnd (eCall F__law_right 1 none [] [(.v, eTup [eC (.int 7), eC (.int 3), eTup []])]) (eCall F__law_right 1 none [] [(.v, eTup [eC (.int 1), eC (.int 1), eTup [eTup [eC (.str "tree"), eC (.str ""), eC (.int 9)]]])])))) [.v x, s1, s2, s3, .v (.lst N), .v A, .v C, .u, .u, .u] = .ok (.rt (.v (.bl true))) [.v x, s1, s2, s3, .v (.lst N), .v A, .v C, .u, .u, .u] := by
  simp only [r1, r2, r3, r4, DL.le_size, DL.lt_size, Int.reducePow, Nat.reducePow, Int.reduceLT, or_true, true_or, or_false, false_or, or_self, DL.k_NoneType_int, DL.k_NoneType_str, DL.k_NoneType_tuple, DL.k_NoneType_list, DL.k_NoneType_bool, DL.k_bool_int, DL.k_bool_str, DL.k_bool_tuple, DL.k_bool_list, DL.k_bool_bool, DL.k_int_int, DL.k_int_str, DL.k_int_tuple, DL.k_int_list, DL.k_int_bool, DL.k_str_int, DL.k_str_str, DL.k_str_tuple, DL.k_str_list, DL.k_str_bool, DL.k_list_int, DL.k_list_str, DL.k_list_tuple, DL.k_list_list, DL.k_list_bool, DL.k_tuple_int, DL.k_tuple_str, DL.k_tuple_tuple, DL.k_tuple_list, DL.k_tuple_bool, DL.k_dict_int, DL.k_dict_str, DL.k_dict_tuple, DL.k_dict_list, DL.k_dict_bool, DL.runDef, DL.sSeq, DL.sIf, DL.sE, DL.sSet, DL.sRet, DL.sNx, DL.sPar, DL.assign, DL.free_z, DL.free_s, DL.okB_u, DL.okB_v, DL.okB_o, DL.fresh, DL.toD, DL.peek, DL.peeks, DL.giv, DL.eC, DL.eVar, DL.eUn, DL.eBin, DL.eT, DL.eB, DL.tNotE, DL.tAndE, DL.tOrE, DL.eIf, DL.eNot, DL.eAnd, DL.eOr, DL.eChain, DL.eDs, DL.eTup, DL.eLst, DL.eVs, DL.eBi, DL.eDct, DL.eKs, DL.mergeD, DL.sPut, DL.sFor, DL.sAsg, DL.tgN, DL.tgT, DL.tgs, DL.eMut, DL.gAppend, DL.eM1, DL.eFmt, DL.eJs, DL.eSl, DL.ePart, DL.gIx, DL.keyD, DL.gAdd, DL.gSub, DL.gMul, DL.gMod, DL.gDiv, DL.gPow, DL.gLt, DL.gLe, DL.gGt, DL.gGe, DL.gIs, DL.gIsNot, DL.isNon, DL.gIsi, DL.tyD, DL.gLen, DL.gTuple, DL.sv, DL.truth, DL.eCall, DL.eArgs, DL.callF, DL.slotsOf, DL.countIo, DL.ioOf, DL.borsOf, DL.borOk, DL.back1, DL.putBack, DL.nolR, DL.nolM, DL.nolO, DL.fin, DL.ioM, DL.M.toD, DL.bind_ok, DL.bind_no, Option.bind_some, Option.bind_none, Option.map_some, Option.map_none, List.length_cons, List.length_nil, List.length_append, List.length_map, List.append_nil, List.nil_append, List.cons_append, List.map_cons, List.map_nil, List.replicate, List.getElem?_cons_zero, List.getElem?_cons_succ, List.getElem?_nil, List.set_cons_zero, List.set_cons_succ, Nat.zero_add, Nat.add_zero, Nat.reduceAdd, Nat.reduceSub, if_true, if_false, Bool.not_true, Bool.not_false, Bool.and_self, Bool.and_true, Bool.true_and, Bool.or_true, Bool.true_or, Bool.false_or, Bool.or_false, List.isEmpty_nil, List.isEmpty_cons, if_pos, reduceIte, Bool.false_eq_true, eq_self, and_self, and_true, true_and, ↓reduceIte, Nat.le_refl, reduceCtorEq, Nat.sub_self, List.all_cons, List.all_nil, Bool.false_and, Nat.zero_le, Nat.reduceLeDiff, Nat.reduceEqDiff, Int.cast_ofNat_Int, Int.reduceLE, Int.reduceLT, Int.reduceEq, Int.reduceNe, Int.reduceAdd, Int.reduceSub, Int.reduceMul, Int.reduceNeg, Int.reduceToNat, decide_true, decide_false, ne_eq, not_true_eq_false, not_false_eq_true]
theorem law_true (ns : List Int) (h : ns.length ≤ 63) : F_law [.v (.fl (ns.map D.int))] = .ok (.v (.bl true)) none := by
  have sl := sl_len ns
  have ip := ints_py ns
  have it : ∀ d ∈ cutD (ns.map D.int) none (some 10) ++ [D.int ns.sum], ∃ c : Int, d = .int c := fun d hd => by
    rcases List.mem_append.mp hd with hd | hd
    · unfold cutD at hd
      obtain ⟨c, _, rfl⟩ := List.mem_map.mp (List.mem_of_mem_drop (List.mem_of_mem_take hd))
      exact ⟨c, rfl⟩
    · rw [List.mem_singleton.mp hd]; exact ⟨_, rfl⟩
  have loop : ∃ e', forL (tgT [tgN 1, tgN 2]) f0_law (enumD 0 (cutD (ns.map D.int) none (some 10) ++ [D.int ns.sum])) [.v (.fl (ns.map D.int)), .u, .u, .u, .u, .u, .u, .u, .u, .u] = .ok .nx e' ∧ ∃ s1 s2 s3, e' = [.v (.fl (ns.map D.int)), s1, s2, s3, .u, .u, .u, .u, .u, .u] ∧ okB s1 = true ∧ okB s2 = true ∧ okB s3 = true := by
    refine forL_run (fun _ e => ∃ s1 s2 s3, e = [.v (.fl (ns.map D.int)), s1, s2, s3, .u, .u, .u, .u, .u, .u] ∧ okB s1 = true ∧ okB s2 = true ∧ okB s3 = true) ⟨.u, .u, .u, rfl, rfl, rfl, rfl⟩ fun i y e hd hi => ?_
    obtain ⟨s1, s2, s3, rfl, o1, o2, o3⟩ := hi
    have il := (List.getElem?_eq_some_iff.mp hd).1
    rw [enumD_len] at il
    have hp := List.getElem?_eq_getElem il
    rw [enumD_get 0 _ i _ hp] at hd
    cases hd
    obtain ⟨c, hc⟩ := it _ (List.getElem_mem il)
    rw [hc]
    rw [List.length_append, List.length_singleton] at il
    obtain ⟨s3', hf, o3'⟩ := cell_ok (.fl (ns.map D.int)) (0 + (i : Nat)) c s3 .u .u .u .u .u .u o3 (by omega) (by omega)
    exact ⟨_, _, by simp only [o1, o2, DL.le_size, DL.lt_size, Int.reducePow, Nat.reducePow, Int.reduceLT, or_true, true_or, or_false, false_or, or_self, DL.k_NoneType_int, DL.k_NoneType_str, DL.k_NoneType_tuple, DL.k_NoneType_list, DL.k_NoneType_bool, DL.k_bool_int, DL.k_bool_str, DL.k_bool_tuple, DL.k_bool_list, DL.k_bool_bool, DL.k_int_int, DL.k_int_str, DL.k_int_tuple, DL.k_int_list, DL.k_int_bool, DL.k_str_int, DL.k_str_str, DL.k_str_tuple, DL.k_str_list, DL.k_str_bool, DL.k_list_int, DL.k_list_str, DL.k_list_tuple, DL.k_list_list, DL.k_list_bool, DL.k_tuple_int, DL.k_tuple_str, DL.k_tuple_tuple, DL.k_tuple_list, DL.k_tuple_bool, DL.k_dict_int, DL.k_dict_str, DL.k_dict_tuple, DL.k_dict_list, DL.k_dict_bool, DL.runDef, DL.sSeq, DL.sIf, DL.sE, DL.sSet, DL.sRet, DL.sNx, DL.sPar, DL.assign, DL.free_z, DL.free_s, DL.okB_u, DL.okB_v, DL.okB_o, DL.fresh, DL.toD, DL.peek, DL.peeks, DL.giv, DL.eC, DL.eVar, DL.eUn, DL.eBin, DL.eT, DL.eB, DL.tNotE, DL.tAndE, DL.tOrE, DL.eIf, DL.eNot, DL.eAnd, DL.eOr, DL.eChain, DL.eDs, DL.eTup, DL.eLst, DL.eVs, DL.eBi, DL.eDct, DL.eKs, DL.mergeD, DL.sPut, DL.sFor, DL.sAsg, DL.tgN, DL.tgT, DL.tgs, DL.eMut, DL.gAppend, DL.eM1, DL.eFmt, DL.eJs, DL.eSl, DL.ePart, DL.gIx, DL.keyD, DL.gAdd, DL.gSub, DL.gMul, DL.gMod, DL.gDiv, DL.gPow, DL.gLt, DL.gLe, DL.gGt, DL.gGe, DL.gIs, DL.gIsNot, DL.isNon, DL.gIsi, DL.tyD, DL.gLen, DL.gTuple, DL.sv, DL.truth, DL.eCall, DL.eArgs, DL.callF, DL.slotsOf, DL.countIo, DL.ioOf, DL.borsOf, DL.borOk, DL.back1, DL.putBack, DL.nolR, DL.nolM, DL.nolO, DL.fin, DL.ioM, DL.M.toD, DL.bind_ok, DL.bind_no, Option.bind_some, Option.bind_none, Option.map_some, Option.map_none, List.length_cons, List.length_nil, List.length_append, List.length_map, List.append_nil, List.nil_append, List.cons_append, List.map_cons, List.map_nil, List.replicate, List.getElem?_cons_zero, List.getElem?_cons_succ, List.getElem?_nil, List.set_cons_zero, List.set_cons_succ, Nat.zero_add, Nat.add_zero, Nat.reduceAdd, Nat.reduceSub, if_true, if_false, Bool.not_true, Bool.not_false, Bool.and_self, Bool.and_true, Bool.true_and, Bool.or_true, Bool.true_or, Bool.false_or, Bool.or_false, List.isEmpty_nil, List.isEmpty_cons, if_pos, reduceIte, Bool.false_eq_true, eq_self, and_self, and_true, true_and, ↓reduceIte, Nat.le_refl, reduceCtorEq, Nat.sub_self, List.all_cons, List.all_nil, Bool.false_and, Nat.zero_le, Nat.reduceLeDiff, Nat.reduceEqDiff, Int.cast_ofNat_Int, Int.reduceLE, Int.reduceLT, Int.reduceEq, Int.reduceNe, Int.reduceAdd, Int.reduceSub, Int.reduceMul, Int.reduceNeg, Int.reduceToNat, decide_true, decide_false, ne_eq, not_true_eq_false, not_false_eq_true], hf, _, _, s3', rfl, rfl, rfl, o3'⟩
  obtain ⟨e', he, s1, s2, s3, rfl, _, _, _⟩ := loop
  have z : (cutD (ns.map D.int) none (some 10)).length + 1 ≤ sizeLine := size64 (by omega)
  have f1 : sFor (tgT [tgN 1, tgN 2]) (DL.iEnum 0 [eBin gAdd (eSl (eVar 0) none (some (eC (.int 10)))) (eLst [eBi gSum [eVar 0]])]) f0_law [.v (.fl (ns.map D.int)), .u, .u, .u, .u, .u, .u, .u, .u, .u] = .ok .nx [.v (.fl (ns.map D.int)), s1, s2, s3, .u, .u, .u, .u, .u, .u] := by
    refine Eq.trans ?_ he
    simp only [DL.iEnum, gSl, gSum, ip, z, DL.le_size, DL.lt_size, Int.reducePow, Nat.reducePow, Int.reduceLT, or_true, true_or, or_false, false_or, or_self, DL.k_NoneType_int, DL.k_NoneType_str, DL.k_NoneType_tuple, DL.k_NoneType_list, DL.k_NoneType_bool, DL.k_bool_int, DL.k_bool_str, DL.k_bool_tuple, DL.k_bool_list, DL.k_bool_bool, DL.k_int_int, DL.k_int_str, DL.k_int_tuple, DL.k_int_list, DL.k_int_bool, DL.k_str_int, DL.k_str_str, DL.k_str_tuple, DL.k_str_list, DL.k_str_bool, DL.k_list_int, DL.k_list_str, DL.k_list_tuple, DL.k_list_list, DL.k_list_bool, DL.k_tuple_int, DL.k_tuple_str, DL.k_tuple_tuple, DL.k_tuple_list, DL.k_tuple_bool, DL.k_dict_int, DL.k_dict_str, DL.k_dict_tuple, DL.k_dict_list, DL.k_dict_bool, DL.runDef, DL.sSeq, DL.sIf, DL.sE, DL.sSet, DL.sRet, DL.sNx, DL.sPar, DL.assign, DL.free_z, DL.free_s, DL.okB_u, DL.okB_v, DL.okB_o, DL.fresh, DL.toD, DL.peek, DL.peeks, DL.giv, DL.eC, DL.eVar, DL.eUn, DL.eBin, DL.eT, DL.eB, DL.tNotE, DL.tAndE, DL.tOrE, DL.eIf, DL.eNot, DL.eAnd, DL.eOr, DL.eChain, DL.eDs, DL.eTup, DL.eLst, DL.eVs, DL.eBi, DL.eDct, DL.eKs, DL.mergeD, DL.sPut, DL.sFor, DL.sAsg, DL.tgN, DL.tgT, DL.tgs, DL.eMut, DL.gAppend, DL.eM1, DL.eFmt, DL.eJs, DL.eSl, DL.ePart, DL.gIx, DL.keyD, DL.gAdd, DL.gSub, DL.gMul, DL.gMod, DL.gDiv, DL.gPow, DL.gLt, DL.gLe, DL.gGt, DL.gGe, DL.gIs, DL.gIsNot, DL.isNon, DL.gIsi, DL.tyD, DL.gLen, DL.gTuple, DL.sv, DL.truth, DL.eCall, DL.eArgs, DL.callF, DL.slotsOf, DL.countIo, DL.ioOf, DL.borsOf, DL.borOk, DL.back1, DL.putBack, DL.nolR, DL.nolM, DL.nolO, DL.fin, DL.ioM, DL.M.toD, DL.bind_ok, DL.bind_no, Option.bind_some, Option.bind_none, Option.map_some, Option.map_none, List.length_cons, List.length_nil, List.length_append, List.length_map, List.append_nil, List.nil_append, List.cons_append, List.map_cons, List.map_nil, List.replicate, List.getElem?_cons_zero, List.getElem?_cons_succ, List.getElem?_nil, List.set_cons_zero, List.set_cons_succ, Nat.zero_add, Nat.add_zero, Nat.reduceAdd, Nat.reduceSub, if_true, if_false, Bool.not_true, Bool.not_false, Bool.and_self, Bool.and_true, Bool.true_and, Bool.or_true, Bool.true_or, Bool.false_or, Bool.or_false, List.isEmpty_nil, List.isEmpty_cons, if_pos, reduceIte, Bool.false_eq_true, eq_self, and_self, and_true, true_and, ↓reduceIte, Nat.le_refl, reduceCtorEq, Nat.sub_self, List.all_cons, List.all_nil, Bool.false_and, Nat.zero_le, Nat.reduceLeDiff, Nat.reduceEqDiff, Int.cast_ofNat_Int, Int.reduceLE, Int.reduceLT, Int.reduceEq, Int.reduceNe, Int.reduceAdd, Int.reduceSub, Int.reduceMul, Int.reduceNeg, Int.reduceToNat, decide_true, decide_false, ne_eq, not_true_eq_false, not_false_eq_true]
  have r1 := right_ok chain_good chain_len (by decide : (1 : Int) ≤ 60) (by decide) (by decide : (0 : Int) ≤ 4) (by decide)
  have r2 := right_ok wide_good wide_len (by decide : (1 : Int) ≤ 1) (by decide) (by decide : (0 : Int) ≤ 0) (by decide)
  have r3 := right_ok none_good (by decide) (by decide : (1 : Int) ≤ 7) (by decide) (by decide : (0 : Int) ≤ 3) (by decide)
  have r4 := right_ok one_good (by decide) (by decide : (1 : Int) ≤ 1) (by decide) (by decide : (0 : Int) ≤ 1) (by decide)
  refine (run_of (x := .v (.bl true)) (e := [.v (.fl (ns.map D.int)), s1, s2, s3, .v (.lst (hNames.map D.str)), .v (treeD 60 4 chainP), .v (treeD 1 0 wideP), .u, .u, .u]) ?_).trans rfl
  refine (sSeq_nx f1).trans ((sSeq_nx (names_ok _ s1 s2 s3)).trans ((sSeq_nx (chain_ok _ s1 s2 s3)).trans ((sSeq_nx (wide_ok _ s1 s2 s3)).trans ?_)))
  have r3' : F__law_right [.v (.tup [.int 7, .int 3, .tup []])] = .ok (.v (.bl true)) none := r3
  have r4' : F__law_right [.v (.tup [.int 1, .int 1, .tup [.tup [.str "tree", .str "", .int 9]]])] = .ok (.v (.bl true)) none := r4
  exact last_ok _ s1 s2 s3 _ _ _ r1 r2 r3' r4'
end K05

namespace K05
open PySem L2 PySem.Spec PyProof.Rows DL
theorem top_mk {K : PySem.W.Frag} {h : Heap} {mg : Str → Option Value} (X : K.In h) (G : h.Ns mainGlobals mg)
    {f0 : Addr} {oc0 kV0 dc0 pm0 cd0 ct0 : Value} {od0 an0 : Option Addr} {sl0 : Array (Option Value)} (a0 : PySem.W.nsIn K mainGlobals "_law_draw" = some (some (.ref f0))) (l0 : K.lookup f0 = some ⟨oc0, od0, .func (PySem.W.fnOf "_law_draw" "_law_draw" (defArgs s__law_draw) (defBody s__law_draw) (defScope s__law_draw) .none kV0 dc0 pm0 an0 cd0 ct0), sl0⟩) (c0 : PySem.W.codeIn K cd0 "_law_draw" = true) (k0 : PySem.W.keepIn K (.ref f0) = true)
    {f1 : Addr} {oc1 kV1 dc1 pm1 cd1 ct1 : Value} {od1 an1 : Option Addr} {sl1 : Array (Option Value)} (a1 : PySem.W.nsIn K mainGlobals "_law_text" = some (some (.ref f1))) (l1 : K.lookup f1 = some ⟨oc1, od1, .func (PySem.W.fnOf "_law_text" "_law_text" (defArgs s__law_text) (defBody s__law_text) (defScope s__law_text) .none kV1 dc1 pm1 an1 cd1 ct1), sl1⟩) (c1 : PySem.W.codeIn K cd1 "_law_text" = true) (k1 : PySem.W.keepIn K (.ref f1) = true)
    {f2 : Addr} {oc2 kV2 dc2 pm2 cd2 ct2 : Value} {od2 an2 : Option Addr} {sl2 : Array (Option Value)} (a2 : PySem.W.nsIn K mainGlobals "is_name" = some (some (.ref f2))) (l2 : K.lookup f2 = some ⟨oc2, od2, .func (PySem.W.fnOf "is_name" "is_name" (defArgs s_is_name) (defBody s_is_name) (defScope s_is_name) .none kV2 dc2 pm2 an2 cd2 ct2), sl2⟩) (c2 : PySem.W.codeIn K cd2 "is_name" = true) (k2 : PySem.W.keepIn K (.ref f2) = true)
    {f3 : Addr} {oc3 kV3 dc3 pm3 cd3 ct3 : Value} {od3 an3 : Option Addr} {sl3 : Array (Option Value)} (a3 : PySem.W.nsIn K mainGlobals "is_whole" = some (some (.ref f3))) (l3 : K.lookup f3 = some ⟨oc3, od3, .func (PySem.W.fnOf "is_whole" "is_whole" (defArgs s_is_whole) (defBody s_is_whole) (defScope s_is_whole) .none kV3 dc3 pm3 an3 cd3 ct3), sl3⟩) (c3 : PySem.W.codeIn K cd3 "is_whole" = true) (k3 : PySem.W.keepIn K (.ref f3) = true)
    {f4 : Addr} {oc4 kV4 dc4 pm4 cd4 ct4 : Value} {od4 an4 : Option Addr} {sl4 : Array (Option Value)} (a4 : PySem.W.nsIn K mainGlobals "is_among" = some (some (.ref f4))) (l4 : K.lookup f4 = some ⟨oc4, od4, .func (PySem.W.fnOf "is_among" "is_among" (defArgs s_is_among) (defBody s_is_among) (defScope s_is_among) .none kV4 dc4 pm4 an4 cd4 ct4), sl4⟩) (c4 : PySem.W.codeIn K cd4 "is_among" = true) (k4 : PySem.W.keepIn K (.ref f4) = true)
    {f5 : Addr} {oc5 kV5 dc5 pm5 cd5 ct5 : Value} {od5 an5 : Option Addr} {sl5 : Array (Option Value)} (a5 : PySem.W.nsIn K mainGlobals "is_talk" = some (some (.ref f5))) (l5 : K.lookup f5 = some ⟨oc5, od5, .func (PySem.W.fnOf "is_talk" "is_talk" (defArgs s_is_talk) (defBody s_is_talk) (defScope s_is_talk) .none kV5 dc5 pm5 an5 cd5 ct5), sl5⟩) (c5 : PySem.W.codeIn K cd5 "is_talk" = true) (k5 : PySem.W.keepIn K (.ref f5) = true)
    {f6 : Addr} {oc6 kV6 dc6 pm6 cd6 ct6 : Value} {od6 an6 : Option Addr} {sl6 : Array (Option Value)} (a6 : PySem.W.nsIn K mainGlobals "fits_behind" = some (some (.ref f6))) (l6 : K.lookup f6 = some ⟨oc6, od6, .func (PySem.W.fnOf "fits_behind" "fits_behind" (defArgs s_fits_behind) (defBody s_fits_behind) (defScope s_fits_behind) .none kV6 dc6 pm6 an6 cd6 ct6), sl6⟩) (c6 : PySem.W.codeIn K cd6 "fits_behind" = true) (k6 : PySem.W.keepIn K (.ref f6) = true)
    {f7 : Addr} {oc7 kV7 dc7 pm7 cd7 ct7 : Value} {od7 an7 : Option Addr} {sl7 : Array (Option Value)} (a7 : PySem.W.nsIn K mainGlobals "first_misfit" = some (some (.ref f7))) (l7 : K.lookup f7 = some ⟨oc7, od7, .func (PySem.W.fnOf "first_misfit" "first_misfit" (defArgs s_first_misfit) (defBody s_first_misfit) (defScope s_first_misfit) .none kV7 dc7 pm7 an7 cd7 ct7), sl7⟩) (c7 : PySem.W.codeIn K cd7 "first_misfit" = true) (k7 : PySem.W.keepIn K (.ref f7) = true)
    {f8 : Addr} {oc8 kV8 dc8 pm8 cd8 ct8 : Value} {od8 an8 : Option Addr} {sl8 : Array (Option Value)} (a8 : PySem.W.nsIn K mainGlobals "is_wait" = some (some (.ref f8))) (l8 : K.lookup f8 = some ⟨oc8, od8, .func (PySem.W.fnOf "is_wait" "is_wait" (defArgs s_is_wait) (defBody s_is_wait) (defScope s_is_wait) .none kV8 dc8 pm8 an8 cd8 ct8), sl8⟩) (c8 : PySem.W.codeIn K cd8 "is_wait" = true) (k8 : PySem.W.keepIn K (.ref f8) = true)
    {f9 : Addr} {oc9 kV9 dc9 pm9 cd9 ct9 : Value} {od9 an9 : Option Addr} {sl9 : Array (Option Value)} (a9 : PySem.W.nsIn K mainGlobals "is_deep" = some (some (.ref f9))) (l9 : K.lookup f9 = some ⟨oc9, od9, .func (PySem.W.fnOf "is_deep" "is_deep" (defArgs s_is_deep) (defBody s_is_deep) (defScope s_is_deep) .none kV9 dc9 pm9 an9 cd9 ct9), sl9⟩) (c9 : PySem.W.codeIn K cd9 "is_deep" = true) (k9 : PySem.W.keepIn K (.ref f9) = true)
    {f10 : Addr} {oc10 kV10 dc10 pm10 cd10 ct10 : Value} {od10 an10 : Option Addr} {sl10 : Array (Option Value)} (a10 : PySem.W.nsIn K mainGlobals "tree_fault" = some (some (.ref f10))) (l10 : K.lookup f10 = some ⟨oc10, od10, .func (PySem.W.fnOf "tree_fault" "tree_fault" (defArgs s_tree_fault) (defBody s_tree_fault) (defScope s_tree_fault) .none kV10 dc10 pm10 an10 cd10 ct10), sl10⟩) (c10 : PySem.W.codeIn K cd10 "tree_fault" = true) (k10 : PySem.W.keepIn K (.ref f10) = true)
    {f11 : Addr} {oc11 kV11 dc11 pm11 cd11 ct11 : Value} {od11 an11 : Option Addr} {sl11 : Array (Option Value)} (a11 : PySem.W.nsIn K mainGlobals "need_tree" = some (some (.ref f11))) (l11 : K.lookup f11 = some ⟨oc11, od11, .func (PySem.W.fnOf "need_tree" "need_tree" (defArgs s_need_tree) (defBody s_need_tree) (defScope s_need_tree) .none kV11 dc11 pm11 an11 cd11 ct11), sl11⟩) (c11 : PySem.W.codeIn K cd11 "need_tree" = true) (k11 : PySem.W.keepIn K (.ref f11) = true)
    {f12 : Addr} {oc12 kV12 dc12 pm12 cd12 ct12 : Value} {od12 an12 : Option Addr} {sl12 : Array (Option Value)} (a12 : PySem.W.nsIn K mainGlobals "bell_or_name" = some (some (.ref f12))) (l12 : K.lookup f12 = some ⟨oc12, od12, .func (PySem.W.fnOf "bell_or_name" "bell_or_name" (defArgs s_bell_or_name) (defBody s_bell_or_name) (defScope s_bell_or_name) .none kV12 dc12 pm12 an12 cd12 ct12), sl12⟩) (c12 : PySem.W.codeIn K cd12 "bell_or_name" = true) (k12 : PySem.W.keepIn K (.ref f12) = true)
    {f13 : Addr} {oc13 kV13 dc13 pm13 cd13 ct13 : Value} {od13 an13 : Option Addr} {sl13 : Array (Option Value)} (a13 : PySem.W.nsIn K mainGlobals "tree_text" = some (some (.ref f13))) (l13 : K.lookup f13 = some ⟨oc13, od13, .func (PySem.W.fnOf "tree_text" "tree_text" (defArgs s_tree_text) (defBody s_tree_text) (defScope s_tree_text) .none kV13 dc13 pm13 an13 cd13 ct13), sl13⟩) (c13 : PySem.W.codeIn K cd13 "tree_text" = true) (k13 : PySem.W.keepIn K (.ref f13) = true)
    {f14 : Addr} {oc14 kV14 dc14 pm14 cd14 ct14 : Value} {od14 an14 : Option Addr} {sl14 : Array (Option Value)} (a14 : PySem.W.nsIn K mainGlobals "rows_of" = some (some (.ref f14))) (l14 : K.lookup f14 = some ⟨oc14, od14, .func (PySem.W.fnOf "rows_of" "rows_of" (defArgs s_rows_of) (defBody s_rows_of) (defScope s_rows_of) .none kV14 dc14 pm14 an14 cd14 ct14), sl14⟩) (c14 : PySem.W.codeIn K cd14 "rows_of" = true) (k14 : PySem.W.keepIn K (.ref f14) = true)
    {f15 : Addr} {oc15 kV15 dc15 pm15 cd15 ct15 : Value} {od15 an15 : Option Addr} {sl15 : Array (Option Value)} (a15 : PySem.W.nsIn K mainGlobals "words_of" = some (some (.ref f15))) (l15 : K.lookup f15 = some ⟨oc15, od15, .func (PySem.W.fnOf "words_of" "words_of" (defArgs s_words_of) (defBody s_words_of) (defScope s_words_of) .none kV15 dc15 pm15 an15 cd15 ct15), sl15⟩) (c15 : PySem.W.codeIn K cd15 "words_of" = true) (k15 : PySem.W.keepIn K (.ref f15) = true)
    {f16 : Addr} {oc16 kV16 dc16 pm16 cd16 ct16 : Value} {od16 an16 : Option Addr} {sl16 : Array (Option Value)} (a16 : PySem.W.nsIn K mainGlobals "words_in" = some (some (.ref f16))) (l16 : K.lookup f16 = some ⟨oc16, od16, .func (PySem.W.fnOf "words_in" "words_in" (defArgs s_words_in) (defBody s_words_in) (defScope s_words_in) .none kV16 dc16 pm16 an16 cd16 ct16), sl16⟩) (c16 : PySem.W.codeIn K cd16 "words_in" = true) (k16 : PySem.W.keepIn K (.ref f16) = true)
    {f17 : Addr} {oc17 kV17 dc17 pm17 cd17 ct17 : Value} {od17 an17 : Option Addr} {sl17 : Array (Option Value)} (a17 : PySem.W.nsIn K mainGlobals "need_words" = some (some (.ref f17))) (l17 : K.lookup f17 = some ⟨oc17, od17, .func (PySem.W.fnOf "need_words" "need_words" (defArgs s_need_words) (defBody s_need_words) (defScope s_need_words) .none kV17 dc17 pm17 an17 cd17 ct17), sl17⟩) (c17 : PySem.W.codeIn K cd17 "need_words" = true) (k17 : PySem.W.keepIn K (.ref f17) = true)
    {f18 : Addr} {oc18 kV18 dc18 pm18 cd18 ct18 : Value} {od18 an18 : Option Addr} {sl18 : Array (Option Value)} (a18 : PySem.W.nsIn K mainGlobals "are_figures" = some (some (.ref f18))) (l18 : K.lookup f18 = some ⟨oc18, od18, .func (PySem.W.fnOf "are_figures" "are_figures" (defArgs s_are_figures) (defBody s_are_figures) (defScope s_are_figures) .none kV18 dc18 pm18 an18 cd18 ct18), sl18⟩) (c18 : PySem.W.codeIn K cd18 "are_figures" = true) (k18 : PySem.W.keepIn K (.ref f18) = true)
    {f19 : Addr} {oc19 kV19 dc19 pm19 cd19 ct19 : Value} {od19 an19 : Option Addr} {sl19 : Array (Option Value)} (a19 : PySem.W.nsIn K mainGlobals "number_of" = some (some (.ref f19))) (l19 : K.lookup f19 = some ⟨oc19, od19, .func (PySem.W.fnOf "number_of" "number_of" (defArgs s_number_of) (defBody s_number_of) (defScope s_number_of) .none kV19 dc19 pm19 an19 cd19 ct19), sl19⟩) (c19 : PySem.W.codeIn K cd19 "number_of" = true) (k19 : PySem.W.keepIn K (.ref f19) = true)
    {f20 : Addr} {oc20 kV20 dc20 pm20 cd20 ct20 : Value} {od20 an20 : Option Addr} {sl20 : Array (Option Value)} (a20 : PySem.W.nsIn K mainGlobals "head_word_fits" = some (some (.ref f20))) (l20 : K.lookup f20 = some ⟨oc20, od20, .func (PySem.W.fnOf "head_word_fits" "head_word_fits" (defArgs s_head_word_fits) (defBody s_head_word_fits) (defScope s_head_word_fits) .none kV20 dc20 pm20 an20 cd20 ct20), sl20⟩) (c20 : PySem.W.codeIn K cd20 "head_word_fits" = true) (k20 : PySem.W.keepIn K (.ref f20) = true)
    {f21 : Addr} {oc21 kV21 dc21 pm21 cd21 ct21 : Value} {od21 an21 : Option Addr} {sl21 : Array (Option Value)} (a21 : PySem.W.nsIn K mainGlobals "read_head" = some (some (.ref f21))) (l21 : K.lookup f21 = some ⟨oc21, od21, .func (PySem.W.fnOf "read_head" "read_head" (defArgs s_read_head) (defBody s_read_head) (defScope s_read_head) .none kV21 dc21 pm21 an21 cd21 ct21), sl21⟩) (c21 : PySem.W.codeIn K cd21 "read_head" = true) (k21 : PySem.W.keepIn K (.ref f21) = true)
    {f22 : Addr} {oc22 kV22 dc22 pm22 cd22 ct22 : Value} {od22 an22 : Option Addr} {sl22 : Array (Option Value)} (a22 : PySem.W.nsIn K mainGlobals "person_word_fits" = some (some (.ref f22))) (l22 : K.lookup f22 = some ⟨oc22, od22, .func (PySem.W.fnOf "person_word_fits" "person_word_fits" (defArgs s_person_word_fits) (defBody s_person_word_fits) (defScope s_person_word_fits) .none kV22 dc22 pm22 an22 cd22 ct22), sl22⟩) (c22 : PySem.W.codeIn K cd22 "person_word_fits" = true) (k22 : PySem.W.keepIn K (.ref f22) = true)
    {f23 : Addr} {oc23 kV23 dc23 pm23 cd23 ct23 : Value} {od23 an23 : Option Addr} {sl23 : Array (Option Value)} (a23 : PySem.W.nsIn K mainGlobals "read_person" = some (some (.ref f23))) (l23 : K.lookup f23 = some ⟨oc23, od23, .func (PySem.W.fnOf "read_person" "read_person" (defArgs s_read_person) (defBody s_read_person) (defScope s_read_person) .none kV23 dc23 pm23 an23 cd23 ct23), sl23⟩) (c23 : PySem.W.codeIn K cd23 "read_person" = true) (k23 : PySem.W.keepIn K (.ref f23) = true)
    {f24 : Addr} {oc24 kV24 dc24 pm24 cd24 ct24 : Value} {od24 an24 : Option Addr} {sl24 : Array (Option Value)} (a24 : PySem.W.nsIn K mainGlobals "read_tree" = some (some (.ref f24))) (l24 : K.lookup f24 = some ⟨oc24, od24, .func (PySem.W.fnOf "read_tree" "read_tree" (defArgs s_read_tree) (defBody s_read_tree) (defScope s_read_tree) .none kV24 dc24 pm24 an24 cd24 ct24), sl24⟩) (c24 : PySem.W.codeIn K cd24 "read_tree" = true) (k24 : PySem.W.keepIn K (.ref f24) = true)
    {f25 : Addr} {oc25 kV25 dc25 pm25 cd25 ct25 : Value} {od25 an25 : Option Addr} {sl25 : Array (Option Value)} (a25 : PySem.W.nsIn K mainGlobals "_law_right" = some (some (.ref f25))) (l25 : K.lookup f25 = some ⟨oc25, od25, .func (PySem.W.fnOf "_law_right" "_law_right" (defArgs s__law_right) (defBody s__law_right) (defScope s__law_right) .none kV25 dc25 pm25 an25 cd25 ct25), sl25⟩) (c25 : PySem.W.codeIn K cd25 "_law_right" = true) (k25 : PySem.W.keepIn K (.ref f25) = true)
    {f26 : Addr} {oc26 kV26 dc26 pm26 cd26 ct26 : Value} {od26 an26 : Option Addr} {sl26 : Array (Option Value)} (a26 : PySem.W.nsIn K mainGlobals "_law_mixed" = some (some (.ref f26))) (l26 : K.lookup f26 = some ⟨oc26, od26, .func (PySem.W.fnOf "_law_mixed" "_law_mixed" (defArgs s__law_mixed) (defBody s__law_mixed) (defScope s__law_mixed) .none kV26 dc26 pm26 an26 cd26 ct26), sl26⟩) (c26 : PySem.W.codeIn K cd26 "_law_mixed" = true) (k26 : PySem.W.keepIn K (.ref f26) = true)
    {f27 : Addr} {oc27 kV27 dc27 pm27 cd27 ct27 : Value} {od27 an27 : Option Addr} {sl27 : Array (Option Value)} (a27 : PySem.W.nsIn K mainGlobals "_law_digit" = some (some (.ref f27))) (l27 : K.lookup f27 = some ⟨oc27, od27, .func (PySem.W.fnOf "_law_digit" "_law_digit" (defArgs s__law_digit) (defBody s__law_digit) (defScope s__law_digit) .none kV27 dc27 pm27 an27 cd27 ct27), sl27⟩) (c27 : PySem.W.codeIn K cd27 "_law_digit" = true) (k27 : PySem.W.keepIn K (.ref f27) = true)
    {f28 : Addr} {oc28 kV28 dc28 pm28 cd28 ct28 : Value} {od28 an28 : Option Addr} {sl28 : Array (Option Value)} (a28 : PySem.W.nsIn K mainGlobals "_law_word" = some (some (.ref f28))) (l28 : K.lookup f28 = some ⟨oc28, od28, .func (PySem.W.fnOf "_law_word" "_law_word" (defArgs s__law_word) (defBody s__law_word) (defScope s__law_word) .none kV28 dc28 pm28 an28 cd28 ct28), sl28⟩) (c28 : PySem.W.codeIn K cd28 "_law_word" = true) (k28 : PySem.W.keepIn K (.ref f28) = true)
    {f29 : Addr} {oc29 kV29 dc29 pm29 cd29 ct29 : Value} {od29 an29 : Option Addr} {sl29 : Array (Option Value)} (a29 : PySem.W.nsIn K mainGlobals "_law_tree" = some (some (.ref f29))) (l29 : K.lookup f29 = some ⟨oc29, od29, .func (PySem.W.fnOf "_law_tree" "_law_tree" (defArgs s__law_tree) (defBody s__law_tree) (defScope s__law_tree) .none kV29 dc29 pm29 an29 cd29 ct29), sl29⟩) (c29 : PySem.W.codeIn K cd29 "_law_tree" = true) (k29 : PySem.W.keepIn K (.ref f29) = true)
    {f30 : Addr} {oc30 kV30 dc30 pm30 cd30 ct30 : Value} {od30 an30 : Option Addr} {sl30 : Array (Option Value)} (a30 : PySem.W.nsIn K mainGlobals "law" = some (some (.ref f30))) (l30 : K.lookup f30 = some ⟨oc30, od30, .func (PySem.W.fnOf "law" "law" (defArgs s_law) (defBody s_law) (defScope s_law) .none kV30 dc30 pm30 an30 cd30 ct30), sl30⟩) (c30 : PySem.W.codeIn K cd30 "law" = true) (k30 : PySem.W.keepIn K (.ref f30) = true)
    (z_all : PySem.W.nsIn K mainGlobals "all" = some none)
    (z_bool : PySem.W.nsIn K mainGlobals "bool" = some none)
    (z_enumerate : PySem.W.nsIn K mainGlobals "enumerate" = some none)
    (z_int : PySem.W.nsIn K mainGlobals "int" = some none)
    (z_isinstance : PySem.W.nsIn K mainGlobals "isinstance" = some none)
    (z_len : PySem.W.nsIn K mainGlobals "len" = some none)
    (z_range : PySem.W.nsIn K mainGlobals "range" = some none)
    (z_repr : PySem.W.nsIn K mainGlobals "repr" = some none)
    (z_str : PySem.W.nsIn K mainGlobals "str" = some none)
    (z_sum : PySem.W.nsIn K mainGlobals "sum" = some none)
    (z_tuple : PySem.W.nsIn K mainGlobals "tuple" = some none)
    (z_zip : PySem.W.nsIn K mainGlobals "zip" = some none)
    {t_BELL_WORD : Tok} (v_BELL_WORD : PySem.W.nsIn K mainGlobals "BELL_WORD" = some (some (.str "-" t_BELL_WORD)))
    {t_DEEPEST : Tok} (v_DEEPEST : PySem.W.nsIn K mainGlobals "DEEPEST" = some (some (.int 4 t_DEEPEST)))
    {t_LONGEST_CALL : Tok} (v_LONGEST_CALL : PySem.W.nsIn K mainGlobals "LONGEST_CALL" = some (some (.int 60 t_LONGEST_CALL)))
    {t_LONGEST_NAME : Tok} (v_LONGEST_NAME : PySem.W.nsIn K mainGlobals "LONGEST_NAME" = some (some (.int 8 t_LONGEST_NAME)))
    {t_MOST_FIGURES : Tok} (v_MOST_FIGURES : PySem.W.nsIn K mainGlobals "MOST_FIGURES" = some (some (.int 5 t_MOST_FIGURES)))
    {t_MOST_PEOPLE : Tok} (v_MOST_PEOPLE : PySem.W.nsIn K mainGlobals "MOST_PEOPLE" = some (some (.int 16 t_MOST_PEOPLE))) : Top K mg where
  f__law_draw := ⟨f0, _, PySem.W.mg_of X G a0, k0, fun_mk (st := s__law_draw) l0 c0 k0, (fun_mk (st := s__law_draw) l0 c0 k0).binds (ps := ["_law_cell", "_law_k"]) fun _ _ _ _ _ _ us hl => match us, hl with | [_, _], _ => rfl⟩
  f__law_text := ⟨f1, _, PySem.W.mg_of X G a1, k1, fun_mk (st := s__law_text) l1 c1 k1, (fun_mk (st := s__law_text) l1 c1 k1).binds (ps := ["_law_tree_here"]) fun _ _ _ _ _ _ us hl => match us, hl with | [_], _ => rfl⟩
  f_is_name := ⟨f2, _, PySem.W.mg_of X G a2, k2, fun_mk (st := s_is_name) l2 c2 k2, (fun_mk (st := s_is_name) l2 c2 k2).binds (ps := ["thing"]) fun _ _ _ _ _ _ us hl => match us, hl with | [_], _ => rfl⟩
  f_is_whole := ⟨f3, _, PySem.W.mg_of X G a3, k3, fun_mk (st := s_is_whole) l3 c3 k3, (fun_mk (st := s_is_whole) l3 c3 k3).binds (ps := ["thing"]) fun _ _ _ _ _ _ us hl => match us, hl with | [_], _ => rfl⟩
  f_is_among := ⟨f4, _, PySem.W.mg_of X G a4, k4, fun_mk (st := s_is_among) l4 c4 k4, (fun_mk (st := s_is_among) l4 c4 k4).binds (ps := ["thing", "least", "most"]) fun _ _ _ _ _ _ us hl => match us, hl with | [_, _, _], _ => rfl⟩
  f_is_talk := ⟨f5, _, PySem.W.mg_of X G a5, k5, fun_mk (st := s_is_talk) l5 c5 k5, (fun_mk (st := s_is_talk) l5 c5 k5).binds (ps := ["thing"]) fun _ _ _ _ _ _ us hl => match us, hl with | [_], _ => rfl⟩
  f_fits_behind := ⟨f6, _, PySem.W.mg_of X G a6, k6, fun_mk (st := s_fits_behind) l6 c6 k6, (fun_mk (st := s_fits_behind) l6 c6 k6).binds (ps := ["thing", "ahead"]) fun _ _ _ _ _ _ us hl => match us, hl with | [_, _], _ => rfl⟩
  f_first_misfit := ⟨f7, _, PySem.W.mg_of X G a7, k7, fun_mk (st := s_first_misfit) l7 c7 k7, (fun_mk (st := s_first_misfit) l7 c7 k7).binds (ps := ["people"]) fun _ _ _ _ _ _ us hl => match us, hl with | [_], _ => rfl⟩
  f_is_wait := ⟨f8, _, PySem.W.mg_of X G a8, k8, fun_mk (st := s_is_wait) l8 c8 k8, (fun_mk (st := s_is_wait) l8 c8 k8).binds (ps := ["thing"]) fun _ _ _ _ _ _ us hl => match us, hl with | [_], _ => rfl⟩
  f_is_deep := ⟨f9, _, PySem.W.mg_of X G a9, k9, fun_mk (st := s_is_deep) l9 c9 k9, (fun_mk (st := s_is_deep) l9 c9 k9).binds (ps := ["thing"]) fun _ _ _ _ _ _ us hl => match us, hl with | [_], _ => rfl⟩
  f_tree_fault := ⟨f10, _, PySem.W.mg_of X G a10, k10, fun_mk (st := s_tree_fault) l10 c10 k10, (fun_mk (st := s_tree_fault) l10 c10 k10).binds (ps := ["thing"]) fun _ _ _ _ _ _ us hl => match us, hl with | [_], _ => rfl⟩
  f_need_tree := ⟨f11, _, PySem.W.mg_of X G a11, k11, fun_mk (st := s_need_tree) l11 c11 k11, (fun_mk (st := s_need_tree) l11 c11 k11).binds (ps := ["tree"]) fun _ _ _ _ _ _ us hl => match us, hl with | [_], _ => rfl⟩
  f_bell_or_name := ⟨f12, _, PySem.W.mg_of X G a12, k12, fun_mk (st := s_bell_or_name) l12 c12 k12, (fun_mk (st := s_bell_or_name) l12 c12 k12).binds (ps := ["name"]) fun _ _ _ _ _ _ us hl => match us, hl with | [_], _ => rfl⟩
  f_tree_text := ⟨f13, _, PySem.W.mg_of X G a13, k13, fun_mk (st := s_tree_text) l13 c13 k13, (fun_mk (st := s_tree_text) l13 c13 k13).binds (ps := ["tree"]) fun _ _ _ _ _ _ us hl => match us, hl with | [_], _ => rfl⟩
  f_rows_of := ⟨f14, _, PySem.W.mg_of X G a14, k14, fun_mk (st := s_rows_of) l14 c14 k14, (fun_mk (st := s_rows_of) l14 c14 k14).binds (ps := ["text"]) fun _ _ _ _ _ _ us hl => match us, hl with | [_], _ => rfl⟩
  f_words_of := ⟨f15, _, PySem.W.mg_of X G a15, k15, fun_mk (st := s_words_of) l15 c15 k15, (fun_mk (st := s_words_of) l15 c15 k15).binds (ps := ["row"]) fun _ _ _ _ _ _ us hl => match us, hl with | [_], _ => rfl⟩
  f_words_in := ⟨f16, _, PySem.W.mg_of X G a16, k16, fun_mk (st := s_words_in) l16 c16 k16, (fun_mk (st := s_words_in) l16 c16 k16).binds (ps := ["number", "row"]) fun _ _ _ _ _ _ us hl => match us, hl with | [_, _], _ => rfl⟩
  f_need_words := ⟨f17, _, PySem.W.mg_of X G a17, k17, fun_mk (st := s_need_words) l17 c17 k17, (fun_mk (st := s_need_words) l17 c17 k17).binds (ps := ["number", "fits", "many"]) fun _ _ _ _ _ _ us hl => match us, hl with | [_, _, _], _ => rfl⟩
  f_are_figures := ⟨f18, _, PySem.W.mg_of X G a18, k18, fun_mk (st := s_are_figures) l18 c18 k18, (fun_mk (st := s_are_figures) l18 c18 k18).binds (ps := ["text"]) fun _ _ _ _ _ _ us hl => match us, hl with | [_], _ => rfl⟩
  f_number_of := ⟨f19, _, PySem.W.mg_of X G a19, k19, fun_mk (st := s_number_of) l19 c19 k19, (fun_mk (st := s_number_of) l19 c19 k19).binds (ps := ["word"]) fun _ _ _ _ _ _ us hl => match us, hl with | [_], _ => rfl⟩
  f_head_word_fits := ⟨f20, _, PySem.W.mg_of X G a20, k20, fun_mk (st := s_head_word_fits) l20 c20 k20, (fun_mk (st := s_head_word_fits) l20 c20 k20).binds (ps := ["place", "word", "deepest"]) fun _ _ _ _ _ _ us hl => match us, hl with | [_, _, _], _ => rfl⟩
  f_read_head := ⟨f21, _, PySem.W.mg_of X G a21, k21, fun_mk (st := s_read_head) l21 c21 k21, (fun_mk (st := s_read_head) l21 c21 k21).binds (ps := ["number", "row", "deepest"]) fun _ _ _ _ _ _ us hl => match us, hl with | [_, _, _], _ => rfl⟩
  f_person_word_fits := ⟨f22, _, PySem.W.mg_of X G a22, k22, fun_mk (st := s_person_word_fits) l22 c22 k22, (fun_mk (st := s_person_word_fits) l22 c22 k22).binds (ps := ["place", "word", "ahead"]) fun _ _ _ _ _ _ us hl => match us, hl with | [_, _, _], _ => rfl⟩
  f_read_person := ⟨f23, _, PySem.W.mg_of X G a23, k23, fun_mk (st := s_read_person) l23 c23 k23, (fun_mk (st := s_read_person) l23 c23 k23).binds (ps := ["number", "row", "people"]) fun _ _ _ _ _ _ us hl => match us, hl with | [_, _, _], _ => rfl⟩
  f_read_tree := ⟨f24, _, PySem.W.mg_of X G a24, k24, fun_mk (st := s_read_tree) l24 c24 k24, (fun_mk (st := s_read_tree) l24 c24 k24).binds (ps := ["text"]) fun _ _ _ _ _ _ us hl => match us, hl with | [_], _ => rfl⟩
  f__law_right := ⟨f25, _, PySem.W.mg_of X G a25, k25, fun_mk (st := s__law_right) l25 c25 k25, (fun_mk (st := s__law_right) l25 c25 k25).binds (ps := ["_law_tree_here"]) fun _ _ _ _ _ _ us hl => match us, hl with | [_], _ => rfl⟩
  f__law_mixed := ⟨f26, _, PySem.W.mg_of X G a26, k26, fun_mk (st := s__law_mixed) l26 c26 k26, (fun_mk (st := s__law_mixed) l26 c26 k26).binds (ps := ["_law_cell", "_law_k"]) fun _ _ _ _ _ _ us hl => match us, hl with | [_, _], _ => rfl⟩
  f__law_digit := ⟨f27, _, PySem.W.mg_of X G a27, k27, fun_mk (st := s__law_digit) l27 c27 k27, (fun_mk (st := s__law_digit) l27 c27 k27).binds (ps := ["_law_state", "_law_many"]) fun _ _ _ _ _ _ us hl => match us, hl with | [_, _], _ => rfl⟩
  f__law_word := ⟨f28, _, PySem.W.mg_of X G a28, k28, fun_mk (st := s__law_word) l28 c28 k28, (fun_mk (st := s__law_word) l28 c28 k28).binds (ps := ["_law_state"]) fun _ _ _ _ _ _ us hl => match us, hl with | [_], _ => rfl⟩
  f__law_tree := ⟨f29, _, PySem.W.mg_of X G a29, k29, fun_mk (st := s__law_tree) l29 c29 k29, (fun_mk (st := s__law_tree) l29 c29 k29).binds (ps := ["_law_state", "_law_most"]) fun _ _ _ _ _ _ us hl => match us, hl with | [_, _], _ => rfl⟩
  f_law := ⟨f30, _, PySem.W.mg_of X G a30, k30, fun_mk (st := s_law) l30 c30 k30, (fun_mk (st := s_law) l30 c30 k30).binds (ps := ["_law_script"]) fun _ _ _ _ _ _ us hl => match us, hl with | [_], _ => rfl⟩
  z_all := PySem.W.mg_none_of X G z_all
  z_bool := PySem.W.mg_none_of X G z_bool
  z_enumerate := PySem.W.mg_none_of X G z_enumerate
  z_int := PySem.W.mg_none_of X G z_int
  z_isinstance := PySem.W.mg_none_of X G z_isinstance
  z_len := PySem.W.mg_none_of X G z_len
  z_range := PySem.W.mg_none_of X G z_range
  z_repr := PySem.W.mg_none_of X G z_repr
  z_str := PySem.W.mg_none_of X G z_str
  z_sum := PySem.W.mg_none_of X G z_sum
  z_tuple := PySem.W.mg_none_of X G z_tuple
  z_zip := PySem.W.mg_none_of X G z_zip
  c_BELL_WORD := ⟨_, PySem.W.mg_of X G v_BELL_WORD, ⟨_, rfl⟩⟩
  c_DEEPEST := ⟨_, PySem.W.mg_of X G v_DEEPEST, ⟨_, rfl⟩⟩
  c_LONGEST_CALL := ⟨_, PySem.W.mg_of X G v_LONGEST_CALL, ⟨_, rfl⟩⟩
  c_LONGEST_NAME := ⟨_, PySem.W.mg_of X G v_LONGEST_NAME, ⟨_, rfl⟩⟩
  c_MOST_FIGURES := ⟨_, PySem.W.mg_of X G v_MOST_FIGURES, ⟨_, rfl⟩⟩
  c_MOST_PEOPLE := ⟨_, PySem.W.mg_of X G v_MOST_PEOPLE, ⟨_, rfl⟩⟩
theorem end_mk {P : Program} {w : World} {K : PySem.W.Frag} {h : Heap} {mg : Str → Option Value} {fa : Addr} (X : K.In h) (G : h.Ns mainGlobals mg) (hfa : mg "law" = some (.ref fa))
    {f0 : Addr} {oc0 kV0 dc0 pm0 cd0 ct0 : Value} {od0 an0 : Option Addr} {sl0 : Array (Option Value)} (a0 : PySem.W.nsIn K mainGlobals "_law_draw" = some (some (.ref f0))) (l0 : K.lookup f0 = some ⟨oc0, od0, .func (PySem.W.fnOf "_law_draw" "_law_draw" (defArgs s__law_draw) (defBody s__law_draw) (defScope s__law_draw) .none kV0 dc0 pm0 an0 cd0 ct0), sl0⟩) (c0 : PySem.W.codeIn K cd0 "_law_draw" = true) (k0 : PySem.W.keepIn K (.ref f0) = true)
    {f1 : Addr} {oc1 kV1 dc1 pm1 cd1 ct1 : Value} {od1 an1 : Option Addr} {sl1 : Array (Option Value)} (a1 : PySem.W.nsIn K mainGlobals "_law_text" = some (some (.ref f1))) (l1 : K.lookup f1 = some ⟨oc1, od1, .func (PySem.W.fnOf "_law_text" "_law_text" (defArgs s__law_text) (defBody s__law_text) (defScope s__law_text) .none kV1 dc1 pm1 an1 cd1 ct1), sl1⟩) (c1 : PySem.W.codeIn K cd1 "_law_text" = true) (k1 : PySem.W.keepIn K (.ref f1) = true)
    {f2 : Addr} {oc2 kV2 dc2 pm2 cd2 ct2 : Value} {od2 an2 : Option Addr} {sl2 : Array (Option Value)} (a2 : PySem.W.nsIn K mainGlobals "is_name" = some (some (.ref f2))) (l2 : K.lookup f2 = some ⟨oc2, od2, .func (PySem.W.fnOf "is_name" "is_name" (defArgs s_is_name) (defBody s_is_name) (defScope s_is_name) .none kV2 dc2 pm2 an2 cd2 ct2), sl2⟩) (c2 : PySem.W.codeIn K cd2 "is_name" = true) (k2 : PySem.W.keepIn K (.ref f2) = true)
    {f3 : Addr} {oc3 kV3 dc3 pm3 cd3 ct3 : Value} {od3 an3 : Option Addr} {sl3 : Array (Option Value)} (a3 : PySem.W.nsIn K mainGlobals "is_whole" = some (some (.ref f3))) (l3 : K.lookup f3 = some ⟨oc3, od3, .func (PySem.W.fnOf "is_whole" "is_whole" (defArgs s_is_whole) (defBody s_is_whole) (defScope s_is_whole) .none kV3 dc3 pm3 an3 cd3 ct3), sl3⟩) (c3 : PySem.W.codeIn K cd3 "is_whole" = true) (k3 : PySem.W.keepIn K (.ref f3) = true)
    {f4 : Addr} {oc4 kV4 dc4 pm4 cd4 ct4 : Value} {od4 an4 : Option Addr} {sl4 : Array (Option Value)} (a4 : PySem.W.nsIn K mainGlobals "is_among" = some (some (.ref f4))) (l4 : K.lookup f4 = some ⟨oc4, od4, .func (PySem.W.fnOf "is_among" "is_among" (defArgs s_is_among) (defBody s_is_among) (defScope s_is_among) .none kV4 dc4 pm4 an4 cd4 ct4), sl4⟩) (c4 : PySem.W.codeIn K cd4 "is_among" = true) (k4 : PySem.W.keepIn K (.ref f4) = true)
    {f5 : Addr} {oc5 kV5 dc5 pm5 cd5 ct5 : Value} {od5 an5 : Option Addr} {sl5 : Array (Option Value)} (a5 : PySem.W.nsIn K mainGlobals "is_talk" = some (some (.ref f5))) (l5 : K.lookup f5 = some ⟨oc5, od5, .func (PySem.W.fnOf "is_talk" "is_talk" (defArgs s_is_talk) (defBody s_is_talk) (defScope s_is_talk) .none kV5 dc5 pm5 an5 cd5 ct5), sl5⟩) (c5 : PySem.W.codeIn K cd5 "is_talk" = true) (k5 : PySem.W.keepIn K (.ref f5) = true)
    {f6 : Addr} {oc6 kV6 dc6 pm6 cd6 ct6 : Value} {od6 an6 : Option Addr} {sl6 : Array (Option Value)} (a6 : PySem.W.nsIn K mainGlobals "fits_behind" = some (some (.ref f6))) (l6 : K.lookup f6 = some ⟨oc6, od6, .func (PySem.W.fnOf "fits_behind" "fits_behind" (defArgs s_fits_behind) (defBody s_fits_behind) (defScope s_fits_behind) .none kV6 dc6 pm6 an6 cd6 ct6), sl6⟩) (c6 : PySem.W.codeIn K cd6 "fits_behind" = true) (k6 : PySem.W.keepIn K (.ref f6) = true)
    {f7 : Addr} {oc7 kV7 dc7 pm7 cd7 ct7 : Value} {od7 an7 : Option Addr} {sl7 : Array (Option Value)} (a7 : PySem.W.nsIn K mainGlobals "first_misfit" = some (some (.ref f7))) (l7 : K.lookup f7 = some ⟨oc7, od7, .func (PySem.W.fnOf "first_misfit" "first_misfit" (defArgs s_first_misfit) (defBody s_first_misfit) (defScope s_first_misfit) .none kV7 dc7 pm7 an7 cd7 ct7), sl7⟩) (c7 : PySem.W.codeIn K cd7 "first_misfit" = true) (k7 : PySem.W.keepIn K (.ref f7) = true)
    {f8 : Addr} {oc8 kV8 dc8 pm8 cd8 ct8 : Value} {od8 an8 : Option Addr} {sl8 : Array (Option Value)} (a8 : PySem.W.nsIn K mainGlobals "is_wait" = some (some (.ref f8))) (l8 : K.lookup f8 = some ⟨oc8, od8, .func (PySem.W.fnOf "is_wait" "is_wait" (defArgs s_is_wait) (defBody s_is_wait) (defScope s_is_wait) .none kV8 dc8 pm8 an8 cd8 ct8), sl8⟩) (c8 : PySem.W.codeIn K cd8 "is_wait" = true) (k8 : PySem.W.keepIn K (.ref f8) = true)
    {f9 : Addr} {oc9 kV9 dc9 pm9 cd9 ct9 : Value} {od9 an9 : Option Addr} {sl9 : Array (Option Value)} (a9 : PySem.W.nsIn K mainGlobals "is_deep" = some (some (.ref f9))) (l9 : K.lookup f9 = some ⟨oc9, od9, .func (PySem.W.fnOf "is_deep" "is_deep" (defArgs s_is_deep) (defBody s_is_deep) (defScope s_is_deep) .none kV9 dc9 pm9 an9 cd9 ct9), sl9⟩) (c9 : PySem.W.codeIn K cd9 "is_deep" = true) (k9 : PySem.W.keepIn K (.ref f9) = true)
    {f10 : Addr} {oc10 kV10 dc10 pm10 cd10 ct10 : Value} {od10 an10 : Option Addr} {sl10 : Array (Option Value)} (a10 : PySem.W.nsIn K mainGlobals "tree_fault" = some (some (.ref f10))) (l10 : K.lookup f10 = some ⟨oc10, od10, .func (PySem.W.fnOf "tree_fault" "tree_fault" (defArgs s_tree_fault) (defBody s_tree_fault) (defScope s_tree_fault) .none kV10 dc10 pm10 an10 cd10 ct10), sl10⟩) (c10 : PySem.W.codeIn K cd10 "tree_fault" = true) (k10 : PySem.W.keepIn K (.ref f10) = true)
    {f11 : Addr} {oc11 kV11 dc11 pm11 cd11 ct11 : Value} {od11 an11 : Option Addr} {sl11 : Array (Option Value)} (a11 : PySem.W.nsIn K mainGlobals "need_tree" = some (some (.ref f11))) (l11 : K.lookup f11 = some ⟨oc11, od11, .func (PySem.W.fnOf "need_tree" "need_tree" (defArgs s_need_tree) (defBody s_need_tree) (defScope s_need_tree) .none kV11 dc11 pm11 an11 cd11 ct11), sl11⟩) (c11 : PySem.W.codeIn K cd11 "need_tree" = true) (k11 : PySem.W.keepIn K (.ref f11) = true)
    {f12 : Addr} {oc12 kV12 dc12 pm12 cd12 ct12 : Value} {od12 an12 : Option Addr} {sl12 : Array (Option Value)} (a12 : PySem.W.nsIn K mainGlobals "bell_or_name" = some (some (.ref f12))) (l12 : K.lookup f12 = some ⟨oc12, od12, .func (PySem.W.fnOf "bell_or_name" "bell_or_name" (defArgs s_bell_or_name) (defBody s_bell_or_name) (defScope s_bell_or_name) .none kV12 dc12 pm12 an12 cd12 ct12), sl12⟩) (c12 : PySem.W.codeIn K cd12 "bell_or_name" = true) (k12 : PySem.W.keepIn K (.ref f12) = true)
    {f13 : Addr} {oc13 kV13 dc13 pm13 cd13 ct13 : Value} {od13 an13 : Option Addr} {sl13 : Array (Option Value)} (a13 : PySem.W.nsIn K mainGlobals "tree_text" = some (some (.ref f13))) (l13 : K.lookup f13 = some ⟨oc13, od13, .func (PySem.W.fnOf "tree_text" "tree_text" (defArgs s_tree_text) (defBody s_tree_text) (defScope s_tree_text) .none kV13 dc13 pm13 an13 cd13 ct13), sl13⟩) (c13 : PySem.W.codeIn K cd13 "tree_text" = true) (k13 : PySem.W.keepIn K (.ref f13) = true)
    {f14 : Addr} {oc14 kV14 dc14 pm14 cd14 ct14 : Value} {od14 an14 : Option Addr} {sl14 : Array (Option Value)} (a14 : PySem.W.nsIn K mainGlobals "rows_of" = some (some (.ref f14))) (l14 : K.lookup f14 = some ⟨oc14, od14, .func (PySem.W.fnOf "rows_of" "rows_of" (defArgs s_rows_of) (defBody s_rows_of) (defScope s_rows_of) .none kV14 dc14 pm14 an14 cd14 ct14), sl14⟩) (c14 : PySem.W.codeIn K cd14 "rows_of" = true) (k14 : PySem.W.keepIn K (.ref f14) = true)
    {f15 : Addr} {oc15 kV15 dc15 pm15 cd15 ct15 : Value} {od15 an15 : Option Addr} {sl15 : Array (Option Value)} (a15 : PySem.W.nsIn K mainGlobals "words_of" = some (some (.ref f15))) (l15 : K.lookup f15 = some ⟨oc15, od15, .func (PySem.W.fnOf "words_of" "words_of" (defArgs s_words_of) (defBody s_words_of) (defScope s_words_of) .none kV15 dc15 pm15 an15 cd15 ct15), sl15⟩) (c15 : PySem.W.codeIn K cd15 "words_of" = true) (k15 : PySem.W.keepIn K (.ref f15) = true)
    {f16 : Addr} {oc16 kV16 dc16 pm16 cd16 ct16 : Value} {od16 an16 : Option Addr} {sl16 : Array (Option Value)} (a16 : PySem.W.nsIn K mainGlobals "words_in" = some (some (.ref f16))) (l16 : K.lookup f16 = some ⟨oc16, od16, .func (PySem.W.fnOf "words_in" "words_in" (defArgs s_words_in) (defBody s_words_in) (defScope s_words_in) .none kV16 dc16 pm16 an16 cd16 ct16), sl16⟩) (c16 : PySem.W.codeIn K cd16 "words_in" = true) (k16 : PySem.W.keepIn K (.ref f16) = true)
    {f17 : Addr} {oc17 kV17 dc17 pm17 cd17 ct17 : Value} {od17 an17 : Option Addr} {sl17 : Array (Option Value)} (a17 : PySem.W.nsIn K mainGlobals "need_words" = some (some (.ref f17))) (l17 : K.lookup f17 = some ⟨oc17, od17, .func (PySem.W.fnOf "need_words" "need_words" (defArgs s_need_words) (defBody s_need_words) (defScope s_need_words) .none kV17 dc17 pm17 an17 cd17 ct17), sl17⟩) (c17 : PySem.W.codeIn K cd17 "need_words" = true) (k17 : PySem.W.keepIn K (.ref f17) = true)
    {f18 : Addr} {oc18 kV18 dc18 pm18 cd18 ct18 : Value} {od18 an18 : Option Addr} {sl18 : Array (Option Value)} (a18 : PySem.W.nsIn K mainGlobals "are_figures" = some (some (.ref f18))) (l18 : K.lookup f18 = some ⟨oc18, od18, .func (PySem.W.fnOf "are_figures" "are_figures" (defArgs s_are_figures) (defBody s_are_figures) (defScope s_are_figures) .none kV18 dc18 pm18 an18 cd18 ct18), sl18⟩) (c18 : PySem.W.codeIn K cd18 "are_figures" = true) (k18 : PySem.W.keepIn K (.ref f18) = true)
    {f19 : Addr} {oc19 kV19 dc19 pm19 cd19 ct19 : Value} {od19 an19 : Option Addr} {sl19 : Array (Option Value)} (a19 : PySem.W.nsIn K mainGlobals "number_of" = some (some (.ref f19))) (l19 : K.lookup f19 = some ⟨oc19, od19, .func (PySem.W.fnOf "number_of" "number_of" (defArgs s_number_of) (defBody s_number_of) (defScope s_number_of) .none kV19 dc19 pm19 an19 cd19 ct19), sl19⟩) (c19 : PySem.W.codeIn K cd19 "number_of" = true) (k19 : PySem.W.keepIn K (.ref f19) = true)
    {f20 : Addr} {oc20 kV20 dc20 pm20 cd20 ct20 : Value} {od20 an20 : Option Addr} {sl20 : Array (Option Value)} (a20 : PySem.W.nsIn K mainGlobals "head_word_fits" = some (some (.ref f20))) (l20 : K.lookup f20 = some ⟨oc20, od20, .func (PySem.W.fnOf "head_word_fits" "head_word_fits" (defArgs s_head_word_fits) (defBody s_head_word_fits) (defScope s_head_word_fits) .none kV20 dc20 pm20 an20 cd20 ct20), sl20⟩) (c20 : PySem.W.codeIn K cd20 "head_word_fits" = true) (k20 : PySem.W.keepIn K (.ref f20) = true)
    {f21 : Addr} {oc21 kV21 dc21 pm21 cd21 ct21 : Value} {od21 an21 : Option Addr} {sl21 : Array (Option Value)} (a21 : PySem.W.nsIn K mainGlobals "read_head" = some (some (.ref f21))) (l21 : K.lookup f21 = some ⟨oc21, od21, .func (PySem.W.fnOf "read_head" "read_head" (defArgs s_read_head) (defBody s_read_head) (defScope s_read_head) .none kV21 dc21 pm21 an21 cd21 ct21), sl21⟩) (c21 : PySem.W.codeIn K cd21 "read_head" = true) (k21 : PySem.W.keepIn K (.ref f21) = true)
    {f22 : Addr} {oc22 kV22 dc22 pm22 cd22 ct22 : Value} {od22 an22 : Option Addr} {sl22 : Array (Option Value)} (a22 : PySem.W.nsIn K mainGlobals "person_word_fits" = some (some (.ref f22))) (l22 : K.lookup f22 = some ⟨oc22, od22, .func (PySem.W.fnOf "person_word_fits" "person_word_fits" (defArgs s_person_word_fits) (defBody s_person_word_fits) (defScope s_person_word_fits) .none kV22 dc22 pm22 an22 cd22 ct22), sl22⟩) (c22 : PySem.W.codeIn K cd22 "person_word_fits" = true) (k22 : PySem.W.keepIn K (.ref f22) = true)
    {f23 : Addr} {oc23 kV23 dc23 pm23 cd23 ct23 : Value} {od23 an23 : Option Addr} {sl23 : Array (Option Value)} (a23 : PySem.W.nsIn K mainGlobals "read_person" = some (some (.ref f23))) (l23 : K.lookup f23 = some ⟨oc23, od23, .func (PySem.W.fnOf "read_person" "read_person" (defArgs s_read_person) (defBody s_read_person) (defScope s_read_person) .none kV23 dc23 pm23 an23 cd23 ct23), sl23⟩) (c23 : PySem.W.codeIn K cd23 "read_person" = true) (k23 : PySem.W.keepIn K (.ref f23) = true)
    {f24 : Addr} {oc24 kV24 dc24 pm24 cd24 ct24 : Value} {od24 an24 : Option Addr} {sl24 : Array (Option Value)} (a24 : PySem.W.nsIn K mainGlobals "read_tree" = some (some (.ref f24))) (l24 : K.lookup f24 = some ⟨oc24, od24, .func (PySem.W.fnOf "read_tree" "read_tree" (defArgs s_read_tree) (defBody s_read_tree) (defScope s_read_tree) .none kV24 dc24 pm24 an24 cd24 ct24), sl24⟩) (c24 : PySem.W.codeIn K cd24 "read_tree" = true) (k24 : PySem.W.keepIn K (.ref f24) = true)
    {f25 : Addr} {oc25 kV25 dc25 pm25 cd25 ct25 : Value} {od25 an25 : Option Addr} {sl25 : Array (Option Value)} (a25 : PySem.W.nsIn K mainGlobals "_law_right" = some (some (.ref f25))) (l25 : K.lookup f25 = some ⟨oc25, od25, .func (PySem.W.fnOf "_law_right" "_law_right" (defArgs s__law_right) (defBody s__law_right) (defScope s__law_right) .none kV25 dc25 pm25 an25 cd25 ct25), sl25⟩) (c25 : PySem.W.codeIn K cd25 "_law_right" = true) (k25 : PySem.W.keepIn K (.ref f25) = true)
    {f26 : Addr} {oc26 kV26 dc26 pm26 cd26 ct26 : Value} {od26 an26 : Option Addr} {sl26 : Array (Option Value)} (a26 : PySem.W.nsIn K mainGlobals "_law_mixed" = some (some (.ref f26))) (l26 : K.lookup f26 = some ⟨oc26, od26, .func (PySem.W.fnOf "_law_mixed" "_law_mixed" (defArgs s__law_mixed) (defBody s__law_mixed) (defScope s__law_mixed) .none kV26 dc26 pm26 an26 cd26 ct26), sl26⟩) (c26 : PySem.W.codeIn K cd26 "_law_mixed" = true) (k26 : PySem.W.keepIn K (.ref f26) = true)
    {f27 : Addr} {oc27 kV27 dc27 pm27 cd27 ct27 : Value} {od27 an27 : Option Addr} {sl27 : Array (Option Value)} (a27 : PySem.W.nsIn K mainGlobals "_law_digit" = some (some (.ref f27))) (l27 : K.lookup f27 = some ⟨oc27, od27, .func (PySem.W.fnOf "_law_digit" "_law_digit" (defArgs s__law_digit) (defBody s__law_digit) (defScope s__law_digit) .none kV27 dc27 pm27 an27 cd27 ct27), sl27⟩) (c27 : PySem.W.codeIn K cd27 "_law_digit" = true) (k27 : PySem.W.keepIn K (.ref f27) = true)
    {f28 : Addr} {oc28 kV28 dc28 pm28 cd28 ct28 : Value} {od28 an28 : Option Addr} {sl28 : Array (Option Value)} (a28 : PySem.W.nsIn K mainGlobals "_law_word" = some (some (.ref f28))) (l28 : K.lookup f28 = some ⟨oc28, od28, .func (PySem.W.fnOf "_law_word" "_law_word" (defArgs s__law_word) (defBody s__law_word) (defScope s__law_word) .none kV28 dc28 pm28 an28 cd28 ct28), sl28⟩) (c28 : PySem.W.codeIn K cd28 "_law_word" = true) (k28 : PySem.W.keepIn K (.ref f28) = true)
    {f29 : Addr} {oc29 kV29 dc29 pm29 cd29 ct29 : Value} {od29 an29 : Option Addr} {sl29 : Array (Option Value)} (a29 : PySem.W.nsIn K mainGlobals "_law_tree" = some (some (.ref f29))) (l29 : K.lookup f29 = some ⟨oc29, od29, .func (PySem.W.fnOf "_law_tree" "_law_tree" (defArgs s__law_tree) (defBody s__law_tree) (defScope s__law_tree) .none kV29 dc29 pm29 an29 cd29 ct29), sl29⟩) (c29 : PySem.W.codeIn K cd29 "_law_tree" = true) (k29 : PySem.W.keepIn K (.ref f29) = true)
    {f30 : Addr} {oc30 kV30 dc30 pm30 cd30 ct30 : Value} {od30 an30 : Option Addr} {sl30 : Array (Option Value)} (a30 : PySem.W.nsIn K mainGlobals "law" = some (some (.ref f30))) (l30 : K.lookup f30 = some ⟨oc30, od30, .func (PySem.W.fnOf "law" "law" (defArgs s_law) (defBody s_law) (defScope s_law) .none kV30 dc30 pm30 an30 cd30 ct30), sl30⟩) (c30 : PySem.W.codeIn K cd30 "law" = true) (k30 : PySem.W.keepIn K (.ref f30) = true)
    (z_all : PySem.W.nsIn K mainGlobals "all" = some none)
    (z_bool : PySem.W.nsIn K mainGlobals "bool" = some none)
    (z_enumerate : PySem.W.nsIn K mainGlobals "enumerate" = some none)
    (z_int : PySem.W.nsIn K mainGlobals "int" = some none)
    (z_isinstance : PySem.W.nsIn K mainGlobals "isinstance" = some none)
    (z_len : PySem.W.nsIn K mainGlobals "len" = some none)
    (z_range : PySem.W.nsIn K mainGlobals "range" = some none)
    (z_repr : PySem.W.nsIn K mainGlobals "repr" = some none)
    (z_str : PySem.W.nsIn K mainGlobals "str" = some none)
    (z_sum : PySem.W.nsIn K mainGlobals "sum" = some none)
    (z_tuple : PySem.W.nsIn K mainGlobals "tuple" = some none)
    (z_zip : PySem.W.nsIn K mainGlobals "zip" = some none)
    {t_BELL_WORD : Tok} (v_BELL_WORD : PySem.W.nsIn K mainGlobals "BELL_WORD" = some (some (.str "-" t_BELL_WORD)))
    {t_DEEPEST : Tok} (v_DEEPEST : PySem.W.nsIn K mainGlobals "DEEPEST" = some (some (.int 4 t_DEEPEST)))
    {t_LONGEST_CALL : Tok} (v_LONGEST_CALL : PySem.W.nsIn K mainGlobals "LONGEST_CALL" = some (some (.int 60 t_LONGEST_CALL)))
    {t_LONGEST_NAME : Tok} (v_LONGEST_NAME : PySem.W.nsIn K mainGlobals "LONGEST_NAME" = some (some (.int 8 t_LONGEST_NAME)))
    {t_MOST_FIGURES : Tok} (v_MOST_FIGURES : PySem.W.nsIn K mainGlobals "MOST_FIGURES" = some (some (.int 5 t_MOST_FIGURES)))
    {t_MOST_PEOPLE : Tok} (v_MOST_PEOPLE : PySem.W.nsIn K mainGlobals "MOST_PEOPLE" = some (some (.int 16 t_MOST_PEOPLE))) : ∃ fd : FuncData, (∀ (z : Shared) (u : Value), BindsTo z fd ⟨[u], []⟩ [("_law_script", u)]) ∧ ∀ base : Heap, K.In base → base.Ns mainGlobals mg → FnG P w K mg base 10 fa fd ["_law_script"] (spD K 1 none F_law) := by
  have e := hfa.symm.trans (PySem.W.mg_of X G a30)
  cases e
  exact ⟨_, fun s v => .of_eq rfl, fun base _ _ => def_ok (fun_mk (st := s_law) l30 c30 k30) sc_law (body_law (top_mk X G a0 l0 c0 k0 a1 l1 c1 k1 a2 l2 c2 k2 a3 l3 c3 k3 a4 l4 c4 k4 a5 l5 c5 k5 a6 l6 c6 k6 a7 l7 c7 k7 a8 l8 c8 k8 a9 l9 c9 k9 a10 l10 c10 k10 a11 l11 c11 k11 a12 l12 c12 k12 a13 l13 c13 k13 a14 l14 c14 k14 a15 l15 c15 k15 a16 l16 c16 k16 a17 l17 c17 k17 a18 l18 c18 k18 a19 l19 c19 k19 a20 l20 c20 k20 a21 l21 c21 k21 a22 l22 c22 k22 a23 l23 c23 k23 a24 l24 c24 k24 a25 l25 c25 k25 a26 l26 c26 k26 a27 l27 c27 k27 a28 l28 c28 k28 a29 l29 c29 k29 a30 l30 c30 k30 z_all z_bool z_enumerate z_int z_isinstance z_len z_range z_repr z_str z_sum z_tuple z_zip v_BELL_WORD v_DEEPEST v_LONGEST_CALL v_LONGEST_NAME v_MOST_FIGURES v_MOST_PEOPLE) fa)⟩
end K05
open PySem PySem.W PyProof.Rows
set_option maxHeartbeats 0 in
theorem PySem.Challenge.cw_ringdown_k05_trees_as_texts_holds : PySem.Challenge.rw_ringdown_k05_trees_as_texts.Holds := by
  w_on; o_law; k_head; (case hw => w_witness2)
  k_fill
  refine DL.law_walk (l := PySem.Challenge.rw_ringdown_k05_trees_as_texts) (n := 63) (k := 10) (x := "_law_script") (R := K05.F_law) rfl (by decide) rfl ⟨rfl, by decide, by decide⟩ (fun w h Y => PySem.W.kIn_of Y) ?F K05.law_true
  case F =>
    intro w mg fa h KX G hmg
    refine' K05.end_mk KX G hmg ?a0 ?l0 ?c0 ?k0 ?a1 ?l1 ?c1 ?k1 ?a2 ?l2 ?c2 ?k2 ?a3 ?l3 ?c3 ?k3 ?a4 ?l4 ?c4 ?k4 ?a5 ?l5 ?c5 ?k5 ?a6 ?l6 ?c6 ?k6 ?a7 ?l7 ?c7 ?k7 ?a8 ?l8 ?c8 ?k8 ?a9 ?l9 ?c9 ?k9 ?a10 ?l10 ?c10 ?k10 ?a11 ?l11 ?c11 ?k11 ?a12 ?l12 ?c12 ?k12 ?a13 ?l13 ?c13 ?k13 ?a14 ?l14 ?c14 ?k14 ?a15 ?l15 ?c15 ?k15 ?a16 ?l16 ?c16 ?k16 ?a17 ?l17 ?c17 ?k17 ?a18 ?l18 ?c18 ?k18 ?a19 ?l19 ?c19 ?k19 ?a20 ?l20 ?c20 ?k20 ?a21 ?l21 ?c21 ?k21 ?a22 ?l22 ?c22 ?k22 ?a23 ?l23 ?c23 ?k23 ?a24 ?l24 ?c24 ?k24 ?a25 ?l25 ?c25 ?k25 ?a26 ?l26 ?c26 ?k26 ?a27 ?l27 ?c27 ?k27 ?a28 ?l28 ?c28 ?k28 ?a29 ?l29 ?c29 ?k29 ?a30 ?l30 ?c30 ?k30 ?z_all ?z_bool ?z_enumerate ?z_int ?z_isinstance ?z_len ?z_range ?z_repr ?z_str ?z_sum ?z_tuple ?z_zip ?v_BELL_WORD ?v_DEEPEST ?v_LONGEST_CALL ?v_LONGEST_NAME ?v_MOST_FIGURES ?v_MOST_PEOPLE
    (case a0 => k_is); (case l0 => k_is); (case c0 => k_is); (case k0 => k_is); (case a1 => k_is); (case l1 => k_is); (case c1 => k_is); (case k1 => k_is); (case a2 => k_is); (case l2 => k_is); (case c2 => k_is); (case k2 => k_is); (case a3 => k_is); (case l3 => k_is); (case c3 => k_is); (case k3 => k_is); (case a4 => k_is); (case l4 => k_is); (case c4 => k_is); (case k4 => k_is); (case a5 => k_is); (case l5 => k_is); (case c5 => k_is); (case k5 => k_is); (case a6 => k_is); (case l6 => k_is); (case c6 => k_is); (case k6 => k_is); (case a7 => k_is); (case l7 => k_is); (case c7 => k_is); (case k7 => k_is); (case a8 => k_is); (case l8 => k_is); (case c8 => k_is); (case k8 => k_is); (case a9 => k_is); (case l9 => k_is); (case c9 => k_is); (case k9 => k_is); (case a10 => k_is); (case l10 => k_is); (case c10 => k_is); (case k10 => k_is); (case a11 => k_is); (case l11 => k_is); (case c11 => k_is); (case k11 => k_is); (case a12 => k_is); (case l12 => k_is); (case c12 => k_is); (case k12 => k_is); (case a13 => k_is); (case l13 => k_is); (case c13 => k_is); (case k13 => k_is); (case a14 => k_is); (case l14 => k_is); (case c14 => k_is); (case k14 => k_is); (case a15 => k_is); (case l15 => k_is); (case c15 => k_is); (case k15 => k_is); (case a16 => k_is); (case l16 => k_is); (case c16 => k_is); (case k16 => k_is); (case a17 => k_is); (case l17 => k_is); (case c17 => k_is); (case k17 => k_is); (case a18 => k_is); (case l18 => k_is); (case c18 => k_is); (case k18 => k_is); (case a19 => k_is); (case l19 => k_is); (case c19 => k_is); (case k19 => k_is); (case a20 => k_is); (case l20 => k_is); (case c20 => k_is); (case k20 => k_is); (case a21 => k_is); (case l21 => k_is); (case c21 => k_is); (case k21 => k_is); (case a22 => k_is); (case l22 => k_is); (case c22 => k_is); (case k22 => k_is); (case a23 => k_is); (case l23 => k_is); (case c23 => k_is); (case k23 => k_is); (case a24 => k_is); (case l24 => k_is); (case c24 => k_is); (case k24 => k_is); (case a25 => k_is); (case l25 => k_is); (case c25 => k_is); (case k25 => k_is); (case a26 => k_is); (case l26 => k_is); (case c26 => k_is); (case k26 => k_is); (case a27 => k_is); (case l27 => k_is); (case c27 => k_is); (case k27 => k_is); (case a28 => k_is); (case l28 => k_is); (case c28 => k_is); (case k28 => k_is); (case a29 => k_is); (case l29 => k_is); (case c29 => k_is); (case k29 => k_is); (case a30 => k_is); (case l30 => k_is); (case c30 => k_is); (case k30 => k_is); (case z_all => k_is); (case z_bool => k_is); (case z_enumerate => k_is); (case z_int => k_is); (case z_isinstance => k_is); (case z_len => k_is); (case z_range => k_is); (case z_repr => k_is); (case z_str => k_is); (case z_sum => k_is); (case z_tuple => k_is); (case z_zip => k_is); (case v_BELL_WORD => k_is); (case v_DEEPEST => k_is); (case v_LONGEST_CALL => k_is); (case v_LONGEST_NAME => k_is); (case v_MOST_FIGURES => k_is); (case v_MOST_PEOPLE => k_is)
