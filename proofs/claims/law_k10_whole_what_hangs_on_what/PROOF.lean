import PyProof.Rows.All
import Wide.All
import OpenK.AllK
import Wide.FinOn
import KE.KStateDown
import HandS.ForExc
import HandS.ForMost
import HandS.More
import HandS.Conv
import HandS.Rev
import HandS.RevRange
import HandS.Deep
import HandS.Flow
import HandS.StrMore
import HandS.IsInst
import HandS.Defaults
import HandS.ExcInit
import HandS.ExcField
import HandS.OwnEq
import HandS.Evl
import HandS.Wide
import HandS.Walk
import HandS.TryMany
import HandS.Codes
import HandS.HeadHook1
import HandS.HeadHook2
import PyProof.ListStr
import HandS.Zip
import HandS.ListItems
import HandS.Lambda
import HandS.HeadHook4
import KE.GoesMore
import PyProof.EnumMake
import HandS.NoneIn
import KE.KDictZip
import KE.GoesZip
import HandS.Dict
import HandS.Head0
import HandS.Head1
import HandS.Head2
import HandS.HeadEnd
import HandS.HeadHook3
import PySem.Challenge.RW_waysback_k10_whole_what_hangs_on_what
import HandS.Small
import HandS.Style
import HandS.HeadWalk
set_option Elab.async false
set_option linter.all false
set_option maxRecDepth 100000
set_option maxHeartbeats 0
/-! The base: defs that can be called, data in a heap, what a reading makes of data. -/
namespace WB
open PySem PySem.Spec PyProof.Rows L2 Evl

/-! ### defs that can be called -/
section
variable (P : Program) (w : World) (K : PySem.W.Frag) (mg : Str → Option Value) (base : Heap)
/-- a def of the module, by its name -/
def Cl (k : Nat) (x : Str) (ps : List Str) (sp : Sp) : Prop :=
  ∃ (f : Addr) (fd : FuncData), FnOk P w K mg base (L2.CX P w) k f fd ps sp ∧ mg x = some (.ref f) ∧ PySem.W.keepIn K (.ref f) = true ∧ Binds K fd ps []
/-- a method m of the class at C -/
def Mt (k : Nat) (C : Addr) (m : Str) (ps : List Str) (sp : Sp) : Prop :=
  ∃ (f : Addr) (fd : FuncData), FnOk P w K mg base (L2.CX P w) k f fd ps sp ∧ Cls K C ∧ Meth K C m f ∧ Binds K fd ps []
/-- a class x at C, sp its __init__ -/
def Mc (k : Nat) (x : Str) (C : Addr) (ps : List Str) (sp : Sp) : Prop :=
  ∃ (f : Addr) (fd : FuncData), FnOk P w K mg base (L2.CX P w) k f fd ps sp ∧ Mk K C f ∧ mg x = some (.ref C) ∧ Binds K fd ps []
end
section
variable {P : Program} {w : World} {K : PySem.W.Frag} {mg : Str → Option Value} {base : Heap}
theorem Cl.mono {j k : Nat} {x : Str} {ps : List Str} {sp : Sp} (c : Cl P w K mg base j x ps sp) (h : j ≤ k) : Cl P w K mg base k x ps sp := by
  obtain ⟨f, fd, F, hm, hk, hb⟩ := c
  exact ⟨f, fd, F.mono h, hm, hk, hb⟩
theorem Cl.imp {k : Nat} {x : Str} {ps : List Str} {sp sp' : Sp} (c : Cl P w K mg base k x ps sp) (h : ∀ vs H Q E, sp' vs H Q E → sp vs H Q E) : Cl P w K mg base k x ps sp' := by
  obtain ⟨f, fd, F, hm, hk, hb⟩ := c
  exact ⟨f, fd, F.imp h, hm, hk, hb⟩
end
section
variable {X : Cx} {k j : Nat} {C : Addr} {x m : Str} {ps : List Str} {sp : Sp} {E : XK} {p pos apos : Pos} {e o : Expr} {es : List Expr} {ta : TE} {t : TA}
theorem pe_cl (c : Cl X.prog X.w X.K X.mg X.base k x ps sp) (hr : Room j X.A) (hk : k ≤ j) (hx : Passes (L2.CX X.prog X.w) X E) (hg : Gl X x) (ha : PA X (e :: es) t)
    (hdb : (x == ("__debug__" : Str)) = false := by decide) (he : starEach (e :: es) X.env = (false, eval e X.env) :: starEach es X.env := by rfl) (hpl : (backTo pos (starEach es X.env)).any (·.1) = false := by rfl) :
    PE X (.Call (.Name x p) (e :: es) [] pos) (tCall sp [] E t) := by
  obtain ⟨f, fd, F, hm, hkp, hb⟩ := c
  exact pe_call F (hr.mono hk) hg hm hkp hb .nil hx ha hdb he hpl
theorem pe_mc (c : Mc X.prog X.w X.K X.mg X.base k x C ps sp) (hr : Room j X.A) (hk : k + 1 ≤ j) (hx : Passes (L2.CX X.prog X.w) X E) (hg : Gl X x) (ha : PA X (e :: es) t)
    (hdb : (x == ("__debug__" : Str)) = false := by decide) (he : starEach (e :: es) X.env = (false, eval e X.env) :: starEach es X.env := by rfl) (hpl : (backTo pos (starEach es X.env)).any (·.1) = false := by rfl) :
    PE X (.Call (.Name x p) (e :: es) [] pos) (tMake C sp [] E t) := by
  obtain ⟨f, fd, F, M, hm, hb⟩ := c
  exact pe_make M F (hr.mono hk) hg hm hb .nil hx ha hdb he hpl
theorem pe_mt0 {pl : Sem Bool} (c : Mt X.prog X.w X.K X.mg X.base k C m ps sp) (hr : Room j X.A) (hk : k ≤ j) (hx : Passes (L2.CX X.prog X.w) X E) (he : PE X o ta)
    (ht : eval (.Call (.Attribute o m apos) [] [] pos) X.env = (do
      let ov ← eval o X.env
      standAt apos.atName
      let (f, first) ← holding [ov] (getMethod ov m pl)
      callWith pos f first (backTo pos (starEach [] X.env)) (backToKw pos (keywordEach [] X.env))) := by rfl) :
    PE X (.Call (.Attribute o m apos) [] [] pos) (tMeth C m sp [] E ta tNil) := by
  obtain ⟨f, fd, F, hc, hm, hb⟩ := c
  exact pe_meth0 he hc hm F (hr.mono hk) hb .nil hx ht
end
/-! ### data -/
mutual
/-- v stands for the data d in H: each list, each tuple tracked as itself -/
inductive Dt (H : Hp) : V → PyData → Prop
  | non : Dt H .non .none
  | bl (b : Bool) : Dt H (.bl b) (.bool b)
  | int (i : Int) : Dt H (.int i) (.int i)
  | str (x : Str) : Dt H (.str x) (.str x)
  | lst {a : Addr} {xs : List V} {ds : List PyData} : H a = some (.lst xs) → DtAll H xs ds → Dt H (.ref a) (.list ds)
  | tup {a : Addr} {xs : List V} {ds : List PyData} : H a = some (.tup xs) → DtAll H xs ds → Dt H (.ref a) (.tuple ds)
  /-- the empty dict; an instance at a of the class at C, itself (not what it holds) -/
  | emp {a : Addr} : H a = some (.dK []) → Dt H (.ref a) (.dict [])
  | ins {a C dx : Addr} {fs : List (Str × V)} : H a = some (.ins C dx fs) → Dt H (.ref a) (.dict [(.int (a : Nat), .int (C : Nat))])
inductive DtAll (H : Hp) : List V → List PyData → Prop
  | nil : DtAll H [] []
  | cons {v : V} {vs : List V} {d : PyData} {ds : List PyData} : Dt H v d → DtAll H vs ds → DtAll H (v :: vs) (d :: ds)
end
mutual
theorem Dt.ex {H H' : Hp} (e : Ex H H') : ∀ {v : V} {d : PyData}, Dt H v d → Dt H' v d
  | _, _, .non => .non
  | _, _, .bl b => .bl b
  | _, _, .int i => .int i
  | _, _, .str x => .str x
  | _, _, .lst h a => .lst (e _ _ h) (DtAll.ex e a)
  | _, _, .tup h a => .tup (e _ _ h) (DtAll.ex e a)
  | _, _, .emp h => .emp (e _ _ h)
  | _, _, .ins h => .ins (e _ _ h)
theorem DtAll.ex {H H' : Hp} (e : Ex H H') : ∀ {vs : List V} {ds : List PyData}, DtAll H vs ds → DtAll H' vs ds
  | _, _, .nil => .nil
  | _, _, .cons h a => .cons (Dt.ex e h) (DtAll.ex e a)
end
/-! no dict, no instance in it -/
mutual
def plainD : PyData → Bool
  | .none | .bool _ | .int _ | .str _ => true
  | .list ds | .tuple ds => plainDs ds
  | .dict _ => false
def plainDs : List PyData → Bool
  | [] => true
  | d :: ds => plainD d && plainDs ds
end
mutual
theorem Dt.dp {K : PySem.W.Frag} {H : Hp} : ∀ {v : V} {d : PyData}, Dt H v d → plainD d = true → Dp K H v d
  | _, _, .non, _ => .non
  | _, _, .bl b, _ => .bl b
  | _, _, .int i, _ => .int i
  | _, _, .str x, _ => .str x
  | _, _, .lst h a, p => .lst (SqL.of h) (DtAll.dp a (by unfold plainD at p; exact p))
  | _, _, .tup h a, p => .tup (SqT.of h) (DtAll.dp a (by unfold plainD at p; exact p))
  | _, _, .emp h, p => by unfold plainD at p; cases p
  | _, _, .ins h, p => by unfold plainD at p; cases p
theorem DtAll.dp {K : PySem.W.Frag} {H : Hp} : ∀ {vs : List V} {ds : List PyData}, DtAll H vs ds → plainDs ds = true → DpAll K H vs ds
  | _, _, .nil, _ => .nil
  | _, _, .cons h a, p => by
    unfold plainDs at p
    obtain ⟨p1, p2⟩ := Bool.and_eq_true_iff.mp p
    exact .cons (Dt.dp h p1) (DtAll.dp a p2)
end
section
variable {H : Hp} {v : V} {vs ws : List V} {d : PyData} {ds es : List PyData}
theorem Dt.none_ (h : Dt H v .none) : v = .non := by cases h; rfl
theorem Dt.bool_ {b : Bool} (h : Dt H v (.bool b)) : v = .bl b := by cases h; rfl
theorem Dt.int_ {i : Int} (h : Dt H v (.int i)) : v = .int i := by cases h; rfl
theorem Dt.str_ {x : Str} (h : Dt H v (.str x)) : v = .str x := by cases h; rfl
theorem Dt.list_ (h : Dt H v (.list ds)) : ∃ a xs, v = .ref a ∧ H a = some (.lst xs) ∧ DtAll H xs ds := by
  cases h with
  | lst h a => exact ⟨_, _, rfl, h, a⟩
theorem Dt.tuple_ (h : Dt H v (.tuple ds)) : ∃ a xs, v = .ref a ∧ H a = some (.tup xs) ∧ DtAll H xs ds := by
  cases h with
  | tup h a => exact ⟨_, _, rfl, h, a⟩
theorem DtAll.len (h : DtAll H vs ds) : vs.length = ds.length := by
  induction ds generalizing vs with
  | nil => cases h; rfl
  | cons d ds ih => cases h with | cons h a => rw [List.length_cons, List.length_cons, ih a]
theorem DtAll.nil_ (h : DtAll H vs []) : vs = [] := by cases h; rfl
theorem DtAll.cons_ (h : DtAll H vs (d :: ds)) : ∃ v r, vs = v :: r ∧ Dt H v d ∧ DtAll H r ds := by
  cases h with | cons h a => exact ⟨_, _, rfl, h, a⟩
theorem DtAll.get : ∀ {vs : List V} {ds : List PyData} {i : Nat} {d : PyData}, DtAll H vs ds → ds[i]? = some d → ∃ v, vs[i]? = some v ∧ Dt H v d
  | _, _, _, _, .nil, e => by simp at e
  | _, _, 0, _, .cons h _, e => by
    simp at e
    subst e
    exact ⟨_, rfl, h⟩
  | _, _, i + 1, _, .cons _ a, e => by
    obtain ⟨v, h1, h2⟩ := DtAll.get (i := i) a (by simpa using e)
    exact ⟨v, by simpa using h1, h2⟩
theorem DtAll.getV : ∀ {vs : List V} {ds : List PyData} {i : Nat} {v : V}, DtAll H vs ds → vs[i]? = some v → ∃ d, ds[i]? = some d ∧ Dt H v d
  | _, _, _, _, .nil, e => by simp at e
  | _, _, 0, _, .cons h _, e => by
    simp at e
    subst e
    exact ⟨_, rfl, h⟩
  | _, _, i + 1, _, .cons _ a, e => by
    obtain ⟨v, h1, h2⟩ := DtAll.getV (i := i) a (by simpa using e)
    exact ⟨v, by simpa using h1, h2⟩
theorem DtAll.app : ∀ {vs ws : List V} {ds es : List PyData}, DtAll H vs ds → DtAll H ws es → DtAll H (vs ++ ws) (ds ++ es)
  | _, _, _, _, .nil, b => b
  | _, _, _, _, .cons h a, b => .cons h (DtAll.app a b)
theorem DtAll.snoc (a : DtAll H vs ds) (h : Dt H v d) : DtAll H (vs ++ [v]) (ds ++ [d]) := a.app (.cons h .nil)
theorem DtAll.take : ∀ {vs : List V} {ds : List PyData} (n : Nat), DtAll H vs ds → DtAll H (vs.take n) (ds.take n)
  | _, _, 0, _ => .nil
  | _, _, _ + 1, .nil => .nil
  | _, _, n + 1, .cons h a => .cons h (DtAll.take n a)
theorem DtAll.drop : ∀ {vs : List V} {ds : List PyData} (n : Nat), DtAll H vs ds → DtAll H (vs.drop n) (ds.drop n)
  | _, _, 0, a => a
  | _, _, _ + 1, .nil => .nil
  | _, _, n + 1, .cons _ a => DtAll.drop n a
theorem DtAll.set : ∀ {vs : List V} {ds : List PyData} (i : Nat), DtAll H vs ds → Dt H v d → DtAll H (vs.set i v) (ds.set i d)
  | _, _, _, .nil, _ => .nil
  | _, _, 0, .cons _ a, h => .cons h a
  | _, _, i + 1, .cons g a, h => .cons g (DtAll.set i a h)
theorem DtAll.rev : ∀ {vs : List V} {ds : List PyData}, DtAll H vs ds → DtAll H vs.reverse ds.reverse
  | _, _, .nil => .nil
  | _, _, .cons h a => by
    rw [List.reverse_cons, List.reverse_cons]
    exact (DtAll.rev a).snoc h
end
/-- what atI does, of data -/
theorem DtAll.atI {H : Hp} {vs : List V} {ds : List PyData} {i : Int} {d : PyData} (a : DtAll H vs ds) (h : L2.atI ds i = some d) : ∃ v, L2.atI vs i = some v ∧ Dt H v d := by
  unfold L2.atI at h ⊢
  rw [a.len]
  cases q : ixN ds.length i with
  | none =>
    rw [q] at h
    cases h
  | some j =>
    rw [q] at h
    obtain ⟨v, h1, h2⟩ := a.get (i := j) (d := d) h
    exact ⟨v, h1, h2⟩
/-- a slice, of data -/
def cutD (xs : List PyData) (lo hi : Option Int) : List PyData := (xs.drop (HT.sIx xs.length 0 lo)).take (HT.sIx xs.length xs.length hi - HT.sIx xs.length 0 lo)
theorem DtAll.cut {H : Hp} {vs : List V} {ds : List PyData} (lo hi : Option Int) (a : DtAll H vs ds) : DtAll H (cutV vs lo hi) (cutD ds lo hi) := by
  unfold cutV cutD
  rw [a.len]
  exact (a.drop _).take _
theorem DtAll.ints {H : Hp} : ∀ ns : List Int, DtAll H (ns.map V.int) (ns.map PyData.int)
  | [] => .nil
  | n :: ns => .cons (.int n) (DtAll.ints ns)
theorem DtAll.ints_ {H : Hp} : ∀ {vs : List V} {ns : List Int}, DtAll H vs (ns.map PyData.int) → vs = ns.map V.int
  | vs, [], h => h.nil_
  | vs, n :: ns, h => by
    obtain ⟨v, r, rfl, h1, h2⟩ := h.cons_
    rw [h1.int_, DtAll.ints_ h2]
    rfl
theorem DtAll.strs_ {H : Hp} : ∀ {vs : List V} {ns : List Str}, DtAll H vs (ns.map PyData.str) → vs = ns.map V.str
  | vs, [], h => h.nil_
  | vs, n :: ns, h => by
    obtain ⟨v, r, rfl, h1, h2⟩ := h.cons_
    rw [h1.str_, DtAll.strs_ h2]
    rfl
theorem DtAll.bools_ {H : Hp} : ∀ {vs : List V} {ns : List Bool}, DtAll H vs (ns.map PyData.bool) → vs = ns.map V.bl
  | vs, [], h => h.nil_
  | vs, n :: ns, h => by
    obtain ⟨v, r, rfl, h1, h2⟩ := h.cons_
    rw [h1.bool_, DtAll.bools_ h2]
    rfl
end WB
/-! What a reading makes of data. -/
namespace WB
open PySem PySem.Spec PyProof.Rows L2 Evl

/-- what is known behind: F, and what is new since H1 -/
def nw (F H1 H2 : Hp) : Hp := fun a => match H1 a with
  | none => H2 a
  | some _ => F a
/-- nothing that stood is gone -/
def Dm (H H' : Hp) : Prop := ∀ a, H' a = none → H a = none
theorem exdm {H H' : Hp} (e : Ex H H') : Dm H H' := fun a h => fresh_back e h
theorem Dm.trans {H H1 H2 : Hp} (a : Dm H H1) (b : Dm H1 H2) : Dm H H2 := fun x h => a x (b x h)
theorem Dm.refl (H : Hp) : Dm H H := fun _ h => h
theorem nw_n {F H1 H2 : Hp} {a : Addr} (h : H1 a = none) : nw F H1 H2 a = H2 a := by unfold nw; rw [h]
theorem nw_s {F H1 H2 : Hp} {a : Addr} {o : HO} (h : H1 a = some o) : nw F H1 H2 a = F a := by unfold nw; rw [h]
theorem nw_ex {F H1 H2 : Hp} (e : Ex F H2) : Ex (nw F H1 H2) H2 := fun a o h => by
  cases q : H1 a with
  | none => rw [nw_n q] at h; exact h
  | some u => rw [nw_s q] at h; exact e a o h
theorem ex_nw {F H1 H2 : Hp} (e : Ex F H1) : Ex F (nw F H1 H2) := fun a o h => by rw [nw_s (e a o h)]; exact h
theorem nw_self {H H2 : Hp} (e : Ex H H2) : nw H H H2 = H2 := by
  funext a
  cases q : H a with
  | none => rw [nw_n q]
  | some u => rw [nw_s q, q, e a u q]
/-- what is new stays -/
def ExN (H1 H2 H3 : Hp) : Prop := ∀ a o, H1 a = none → H2 a = some o → H3 a = some o
theorem exexn {H1 H2 H3 : Hp} (e : Ex H2 H3) : ExN H1 H2 H3 := fun a o _ h => e a o h
theorem nw_r {F H1 H2 H3 : Hp} (e : ExN H1 H2 H3) : Ex (nw F H1 H2) (nw F H1 H3) := fun a o h => by
  cases q : H1 a with
  | none => rw [nw_n q] at h ⊢; exact e a o q h
  | some u => rw [nw_s q] at h ⊢; exact h
theorem nw_l {F H1 H2 H3 : Hp} (e : Ex F H1) (d : Dm H1 H2) : Ex (nw F H2 H3) (nw F H1 H3) := fun a o h => by
  cases q : H2 a with
  | none => rw [nw_n q] at h; rw [nw_n (d a q)]; exact h
  | some u =>
    rw [nw_s q] at h
    rw [nw_s (e a o h)]
    exact h
theorem nw_f {F F' H1 H2 : Hp} (e : Ex F F') : Ex (nw F H1 H2) (nw F' H1 H2) := fun a o h => by
  cases q : H1 a with
  | none => rw [nw_n q] at h ⊢; exact h
  | some u => rw [nw_s q] at h ⊢; exact e a o h
theorem nw_none {F H1 H2 : Hp} {a : Addr} {o : HO} (h : H1 a = some o) (hF : F a = none) : nw F H1 H2 a = none := by rw [nw_s h, hF]
/-- te gives d from every heap over F; what it gives is of F or new -/
def EvD (te : TE) (σ : L2.St) (F : Hp) (d : PyData) : Prop := ∀ H1, Ex F H1 → ∀ Q : VK, (∀ v H2, Ex H1 H2 → Dt (nw F H1 H2) v d → Q v H2) → te σ H1 Q
def EvDA (ta : TA) (σ : L2.St) (F : Hp) (ds : List PyData) : Prop := ∀ H1, Ex F H1 → ∀ Q : List V → Hp → Prop, (∀ vs H2, Ex H1 H2 → DtAll (nw F H1 H2) vs ds → Q vs H2) → ta σ H1 Q
/-- a scalar, its value -/
def sc : PyData → Option V
  | .none => some .non
  | .bool b => some (.bl b)
  | .int i => some (.int i)
  | .str x => some (.str x)
  | _ => none
theorem dt_sc {H : Hp} {v u : V} {d : PyData} (h : Dt H v d) (e : sc d = some u) : v = u := by
  cases h <;> first | (exact Option.some.inj e) | (cases e)
theorem sc_dt {H : Hp} {u : V} {d : PyData} (e : sc d = some u) : Dt H u d := by
  cases d <;> first | (cases e; done) | (cases e; constructor)
section
variable {K : PySem.W.Frag} {σ : L2.St} {F F' H H' : Hp} {ta tb te tx : TE} {t u : TT} {d d1 d2 : PyData} {v : V} {r : R2}
theorem EvD.mono (e : Ex F F') (h : EvD te σ F d) : EvD te σ F' d := fun H1 a Q q => h H1 (e.trans a) Q fun v H2 e2 hv => q v H2 e2 (hv.ex (nw_f e))
theorem EvDA.mono {ta : TA} {ds : List PyData} (e : Ex F F') (h : EvDA ta σ F ds) : EvDA ta σ F' ds := fun H1 a Q q => h H1 (e.trans a) Q fun v H2 e2 hv => q v H2 e2 (hv.ex (nw_f e))
theorem EvD.ev {u : V} (h : EvD te σ F d) (e : sc d = some u) : Ev te σ F u := fun H1 a Q q => h H1 a Q fun v H2 e2 hd => by
  cases dt_sc hd e
  exact q H2 e2
theorem evd_of {u : V} (h : Ev te σ F u) (e : sc d = some u) : EvD te σ F d := fun H1 a Q q => h H1 a Q fun H2 e2 => q u H2 e2 (sc_dt e)
theorem EvD.evi {i : Int} (h : EvD te σ F (.int i)) : Ev te σ F (.int i) := h.ev rfl
theorem EvD.evb {i : Bool} (h : EvD te σ F (.bool i)) : Ev te σ F (.bl i) := h.ev rfl
theorem EvD.evs {i : Str} (h : EvD te σ F (.str i)) : Ev te σ F (.str i) := h.ev rfl
theorem EvD.is {e : PyData} (h : EvD te σ F d) (q : d = e) : EvD te σ F e := q ▸ h
theorem EvDA.is {ta : TA} {ds es : List PyData} (h : EvDA ta σ F ds) (q : ds = es) : EvDA ta σ F es := q ▸ h
/-- a value that stands for data -/
theorem ev_data {u : V} (h : Ev te σ F u) (hd : Dt F u d) : EvD te σ F d := fun H1 a Q q => h H1 a Q fun H2 e2 => q u H2 e2 (hd.ex (ex_nw a))
theorem d_var {i : Nat} (h : σ[i]? = some (some v)) (hd : Dt F v d) : EvD (tVar i) σ F d := fun H1 e _ q => ⟨v, h, q v H1 (Ex.refl H1) (hd.ex (ex_nw e))⟩
theorem d_int {i : Int} : EvD (tC (.int i)) σ F (.int i) := fun H1 _ _ q => q _ H1 (Ex.refl H1) (.int i)
theorem d_str {i : Str} : EvD (tC (.str i)) σ F (.str i) := fun H1 _ _ q => q _ H1 (Ex.refl H1) (.str i)
theorem d_bl {i : Bool} : EvD (tC (.bl i)) σ F (.bool i) := fun H1 _ _ q => q _ H1 (Ex.refl H1) (.bl i)
theorem d_non : EvD (tC .non) σ F .none := fun H1 _ _ q => q _ H1 (Ex.refl H1) .non
/-- one evaluation behind another: what was known and new then, is now -/
theorem dt_on {H1 H2 H3 : Hp} (h : Dt (nw F H1 H2) v d) (e : Ex H2 H3) : Dt (nw F H1 H3) v d := h.ex (nw_r (exexn e))
theorem dta_on {H1 H2 H3 : Hp} {vs : List V} {ds : List PyData} (h : DtAll (nw F H1 H2) vs ds) (e : Ex H2 H3) : DtAll (nw F H1 H3) vs ds := h.ex (nw_r (exexn e))
theorem dt_up {H1 H2 H3 : Hp} (h : Dt (nw F H2 H3) v d) (e : Ex F H1) (e2 : Ex H1 H2) : Dt (nw F H1 H3) v d := h.ex (nw_l e (exdm e2))
theorem dta_up {H1 H2 H3 : Hp} {vs : List V} {ds : List PyData} (h : DtAll (nw F H2 H3) vs ds) (e : Ex F H1) (e2 : Ex H1 H2) : DtAll (nw F H1 H3) vs ds := h.ex (nw_l e (exdm e2))
theorem ls_new {H1 H2 : Hp} {p : Addr} {xs : List V} {ds : List PyData} (e2 : Ex H1 H2) (hp : H2 p = none) (a : DtAll (nw F H1 H2) xs ds) : Dt (nw F H1 (upd H2 p (.lst xs))) (.ref p) (.list ds) :=
  .lst (by rw [nw_n (exdm e2 p hp), upd_same]) (dta_on a (Ex.new hp))
theorem tp_new {H1 H2 : Hp} {p : Addr} {xs : List V} {ds : List PyData} (e2 : Ex H1 H2) (hp : H2 p = none) (a : DtAll (nw F H1 H2) xs ds) : Dt (nw F H1 (upd H2 p (.tup xs))) (.ref p) (.tuple ds) :=
  .tup (by rw [nw_n (exdm e2 p hp), upd_same]) (dta_on a (Ex.new hp))
/-- what an operation on data asks -/
def OpD (r : R2) (F : Hp) (d1 d2 d : PyData) : Prop := ∀ H1 H2, Ex F H1 → Ex H1 H2 → ∀ x y, Dt (nw F H1 H2) x d1 → Dt (nw F H1 H2) y d2 → ∀ Q : VK, (∀ v H3, Ex H2 H3 → Dt (nw F H1 H3) v d → Q v H3) → r x y H2 Q
theorem d_op (ha : EvD ta σ F d1) (hb : EvD tb σ F d2) (hr : OpD r F d1 d2 d) : EvD (tOp r ta tb) σ F d := fun H1 e Q q =>
  ha H1 e _ fun x H2 e2 hx => hb H2 (e.trans e2) _ fun y H3 e3 hy => hr H1 H3 e (e2.trans e3) x y (dt_on hx e3) (dt_up hy e e2) Q fun v H4 e4 hv => q v H4 ((e2.trans e3).trans e4) hv
/-- the operation gives a value, the heap as it is -/
theorem opS {z : V} (hz : sc d = some z) (h : ∀ H2 x y, Dt H2 x d1 → Dt H2 y d2 → ∀ Q : VK, Q z H2 → r x y H2 Q) : OpD r F d1 d2 d := fun H1 H2 e e2 x y hx hy Q q =>
  h H2 x y (hx.ex (nw_ex (e.trans e2))) (hy.ex (nw_ex (e.trans e2))) Q (q z H2 (Ex.refl H2) (sc_dt hz))
theorem d_add {i j : Int} (ha : EvD ta σ F (.int i)) (hb : EvD tb σ F (.int j)) : EvD (tOp (rI0 fun i j => .int (i + j)) ta tb) σ F (.int (i + j)) :=
  d_op ha hb (opS rfl fun H1 x y hx hy Q q => ⟨i, j, hx.int_, hy.int_, q⟩)
theorem d_sub {i j : Int} (ha : EvD ta σ F (.int i)) (hb : EvD tb σ F (.int j)) : EvD (tOp (rI0 fun i j => .int (i - j)) ta tb) σ F (.int (i - j)) :=
  d_op ha hb (opS rfl fun H1 x y hx hy Q q => ⟨i, j, hx.int_, hy.int_, q⟩)
theorem d_cmp {p : Int → Int → Bool} {i j : Int} (ha : EvD ta σ F (.int i)) (hb : EvD tb σ F (.int j)) : EvD (tOp (rI0 fun i j => .bl (p i j)) ta tb) σ F (.bool (p i j)) :=
  d_op ha hb (opS rfl fun H1 x y hx hy Q q => ⟨i, j, hx.int_, hy.int_, q⟩)
theorem d_opI {C : Int → Int → Prop} {g : Int → Int → Int} {i j : Int} (ha : EvD ta σ F (.int i)) (hb : EvD tb σ F (.int j)) (hc : C i j) : EvD (tOp (rI C fun i j => .int (g i j)) ta tb) σ F (.int (g i j)) :=
  d_op ha hb (opS rfl fun H1 x y hx hy Q q => ⟨i, j, hx.int_, hy.int_, hc, q⟩)
theorem d_cat {a b : Str} (ha : EvD ta σ F (.str a)) (hb : EvD tb σ F (.str b)) (hz : a.length + b.length ≤ sizeLine) :
    EvD (tOp (fun x y H Q => ∃ i j, x = .str i ∧ y = .str j ∧ i.length + j.length ≤ sizeLine ∧ Q (.str (i ++ j)) H) ta tb) σ F (.str (a ++ b)) :=
  d_op ha hb (opS rfl fun H1 x y hx hy Q q => ⟨a, b, hx.str_, hy.str_, hz, q⟩)
/-- == and != of scalars -/
theorem d_eq {x y : V} (ha : EvD ta σ F d1) (hb : EvD tb σ F d2) (ea : sc d1 = some x := by rfl) (eb : sc d2 = some y := by rfl) (h : scal x y = true := by rfl) : EvD (tOp rEq ta tb) σ F (.bool (decide (x = y))) :=
  d_op ha hb (opS rfl fun H1 x' y' hx hy Q q => by
    cases dt_sc hx ea
    cases dt_sc hy eb
    exact ⟨h, q⟩)
theorem d_ne {x y : V} (ha : EvD ta σ F d1) (hb : EvD tb σ F d2) (ea : sc d1 = some x := by rfl) (eb : sc d2 = some y := by rfl) (h : scal x y = true := by rfl) : EvD (tOp rNe ta tb) σ F (.bool (!decide (x = y))) :=
  d_op ha hb (opS rfl fun H1 x' y' hx hy Q q => by
    cases dt_sc hx ea
    cases dt_sc hy eb
    exact ⟨h, q⟩)
theorem d_eqD (ha : EvD ta σ F d1) (hb : EvD tb σ F d2) (p1 : plainD d1 = true) (p2 : plainD d2 = true) (s1 : SeqAt.shaped d1 = true) (s2 : SeqAt.shaped d2 = true) : EvD (tOp (rEqD K) ta tb) σ F (.bool (PyData.eqv d1 d2)) :=
  d_op ha hb (opS rfl fun H1 x y hx hy Q q => ⟨d1, d2, hx.dp p1, hy.dp p2, s1, s2, q⟩)
theorem d_neD (ha : EvD ta σ F d1) (hb : EvD tb σ F d2) (p1 : plainD d1 = true) (p2 : plainD d2 = true) (s1 : SeqAt.shaped d1 = true) (s2 : SeqAt.shaped d2 = true) : EvD (tOp (rNeD K) ta tb) σ F (.bool (!PyData.eqv d1 d2)) :=
  d_op ha hb (opS rfl fun H1 x y hx hy Q q => ⟨d1, d2, hx.dp p1, hy.dp p2, s1, s2, q⟩)
def isNone : PyData → Bool
  | .none => true
  | _ => false
theorem d_isN (ha : EvD ta σ F d1) : EvD (tOp (fun x y H Q => y = .non ∧ Q (.bl (decide (x = .non))) H) ta (tC .non)) σ F (.bool (isNone d1)) :=
  d_op ha d_non (opS rfl fun H1 x y hx hy Q q => ⟨hy.none_, by
    cases hx <;> exact q⟩)
theorem d_notN (ha : EvD ta σ F d1) : EvD (tOp (fun x y H Q => y = .non ∧ Q (.bl (!decide (x = .non))) H) ta (tC .non)) σ F (.bool (!isNone d1)) :=
  d_op ha d_non (opS rfl fun H1 x y hx hy Q q => ⟨hy.none_, by
    cases hx <;> exact q⟩)
/-- items -/
theorem d_ixL {ds : List PyData} {i : Int} (ha : EvD ta σ F (.list ds)) (hb : EvD tb σ F (.int i)) (h : atI ds i = some d) : EvD (tOp (rIxL K) ta tb) σ F d :=
  d_op ha hb fun H1 H2 e e2 x y hx hy Q q => by
    obtain ⟨a, xs, rfl, h1, h2⟩ := hx.list_
    obtain ⟨v, h3, h4⟩ := h2.atI h
    exact ⟨a, xs, i, v, rfl, hy.int_, SqL.of (nw_ex (e.trans e2) _ _ h1), h3, q v H2 (Ex.refl H2) h4⟩
theorem d_ixT {ds : List PyData} {i : Int} (ha : EvD ta σ F (.tuple ds)) (hb : EvD tb σ F (.int i)) (h : atI ds i = some d) : EvD (tOp (rIxT K) ta tb) σ F d :=
  d_op ha hb fun H1 H2 e e2 x y hx hy Q q => by
    obtain ⟨a, xs, rfl, h1, h2⟩ := hx.tuple_
    obtain ⟨v, h3, h4⟩ := h2.atI h
    exact ⟨a, xs, i, v, rfl, hy.int_, SqT.of (nw_ex (e.trans e2) _ _ h1), h3, q v H2 (Ex.refl H2) h4⟩
theorem d_ixS {z : Str} {i : Int} {c : Nat} (ha : EvD ta σ F (.str z)) (hb : EvD tb σ F (.int i)) (hz : z.length ≤ sizeLine) (h : atI z.cps.toList i = some c) : EvD (tOp rIxS ta tb) σ F (.str ⟨#[c]⟩) :=
  d_op ha hb (opS rfl fun H1 x y hx hy Q q => ⟨z, i, c, hx.str_, hy.int_, hz, h, q⟩)
/-- list + list -/
theorem d_catL {ds es : List PyData} (ha : EvD ta σ F (.list ds)) (hb : EvD tb σ F (.list es)) (hz : ds.length + es.length ≤ sizeLine) : EvD (tOp rCat ta tb) σ F (.list (ds ++ es)) :=
  d_op ha hb fun H1 H2 e e2 x y hx hy Q q => by
    obtain ⟨a, xs, rfl, h1, h2⟩ := hx.list_
    obtain ⟨b, zs, rfl, h3, h4⟩ := hy.list_
    exact ⟨a, b, xs, zs, rfl, rfl, nw_ex (e.trans e2) _ _ h1, nw_ex (e.trans e2) _ _ h3, by rw [h2.len, h4.len]; exact hz, fun p hp => q _ _ (Ex.new hp) (ls_new e2 hp (h2.app h4))⟩
/-- arguments, tuples, lists -/
theorem da_nil : EvDA tNil σ F [] := fun H1 _ _ q => q [] H1 (Ex.refl H1) .nil
theorem da_cons {tr : TA} {ds : List PyData} (h : EvD ta σ F d) (hr : EvDA tr σ F ds) : EvDA (tCons ta tr) σ F (d :: ds) := fun H1 e _ q =>
  h H1 e _ fun x H2 e2 hx => hr H2 (e.trans e2) _ fun xs H3 e3 hxs => q (x :: xs) H3 (e2.trans e3) (.cons (dt_on hx e3) (dta_up hxs e e2))
theorem d_tup {ta : TA} {ds : List PyData} (h : EvDA ta σ F ds) (hz : ds.length ≤ 100000 := by simp) : EvD (tTup ta) σ F (.tuple ds) := fun H1 e _ q =>
  h H1 e _ fun xs H2 e2 hx => ⟨by rw [hx.len]; exact sz_of hz, fun p hp => q _ _ (e2.trans (Ex.new hp)) (tp_new e2 hp hx)⟩
theorem d_lst {ta : TA} {ds : List PyData} (h : EvDA ta σ F ds) (hz : ds.length ≤ 100000 := by simp) : EvD (tLst ta) σ F (.list ds) := fun H1 e _ q =>
  h H1 e _ fun xs H2 e2 hx => ⟨by rw [hx.len]; exact sz_of hz, fun p hp => q _ _ (e2.trans (Ex.new hp)) (ls_new e2 hp hx)⟩
/-- a if c else b -/
theorem d_if {b : Bool} (h : EvT t σ F b) (h1 : b = true → EvD ta σ F d) (h2 : b = false → EvD tb σ F d) : EvD (tIf t ta tb) σ F d := fun H1 e Q q => h H1 e _ fun H2 e2 => by
  cases b with
  | true => exact h1 rfl H2 (e.trans e2) Q fun v H3 e3 hv => q v H3 (e2.trans e3) (dt_up hv e e2)
  | false => exact h2 rfl H2 (e.trans e2) Q fun v H3 e3 hv => q v H3 (e2.trans e3) (dt_up hv e e2)
/-- a test by its value -/
theorem t_val {b : Bool} (h : EvD te σ F (.bool b)) : EvT (tTest te) σ F b := et_test h.evb
theorem t_B {b : Bool} (h : EvD te σ F (.bool b)) : EvT (tB te) σ F b := et_B h.evb
theorem d_and {a b : Bool} (h1 : EvD ta σ F (.bool a)) (h2 : a = true → EvD tb σ F (.bool b)) : EvD (tAndV ta tb) σ F (.bool (a && b)) := evd_of (ev_andV h1.evb fun e => (h2 e).evb) rfl
theorem d_or {a b : Bool} (h1 : EvD ta σ F (.bool a)) (h2 : a = false → EvD tb σ F (.bool b)) : EvD (tOrV ta tb) σ F (.bool (a || b)) := evd_of (ev_orV h1.evb fun e => (h2 e).evb) rfl
theorem d_not {a : Bool} (h1 : EvD ta σ F (.bool a)) : EvD (tNotV ta) σ F (.bool (!a)) := evd_of (ev_notV h1.evb) rfl
/-- slices -/
theorem do_none : EvO tNoPart σ F none := eo_none
theorem do_some {i : Int} (h : EvD te σ F (.int i)) : EvO (tPart te) σ F (some i) := eo_some h.evi
theorem d_slL {tl th : TO} {ds : List PyData} {lo hi : Option Int} (h : EvD te σ F (.list ds)) (h1 : EvO tl σ F lo) (h2 : EvO th σ F hi) : EvD (tSl (rSlL K) te tl th) σ F (.list (cutD ds lo hi)) := fun H1 e _ q =>
  h H1 e _ fun x H2 e2 hx => h1 H2 (e.trans e2) _ fun H3 e3 => h2 H3 ((e.trans e2).trans e3) _ fun H4 e4 => by
    have e24 := (e2.trans e3).trans e4
    obtain ⟨a, xs, rfl, g1, g2⟩ := (dt_on hx (e3.trans e4)).list_
    exact ⟨a, xs, rfl, SqL.of (nw_ex (e.trans e24) _ _ g1), fun p hp => q _ _ (e24.trans (Ex.new hp)) (ls_new e24 hp (g2.cut lo hi))⟩
theorem d_slS {tl th : TO} {z : Str} {lo hi : Option Int} (h : EvD te σ F (.str z)) (h1 : EvO tl σ F lo) (h2 : EvO th σ F hi) (hz : z.length ≤ sizeLine) : EvD (tSl rSlS te tl th) σ F (.str (cutS z lo hi)) := fun H1 e _ q =>
  h H1 e _ fun x H2 e2 hx => h1 H2 (e.trans e2) _ fun H3 e3 => h2 H3 ((e.trans e2).trans e3) _ fun H4 e4 => by
    exact ⟨z, hx.str_, hz, q _ _ ((e2.trans e3).trans e4) (.str _)⟩
/-- built-ins -/
def CbD (r : List V → Hp → VK → Prop) (F : Hp) (ds : List PyData) (d : PyData) : Prop := ∀ H1 H2, Ex F H1 → Ex H1 H2 → ∀ xs, DtAll (nw F H1 H2) xs ds → ∀ Q : VK, (∀ v H3, Ex H2 H3 → Dt (nw F H1 H3) v d → Q v H3) → r xs H2 Q
theorem d_cb {r : List V → Hp → VK → Prop} {ta : TA} {ds : List PyData} (h : EvDA ta σ F ds) (hr : CbD r F ds d) : EvD (tCB r ta) σ F d := fun H1 e Q q =>
  h H1 e _ fun xs H2 e2 hx => hr H1 H2 e e2 xs hx Q fun v H3 e3 hv => q v H3 (e2.trans e3) hv
theorem da1_ {xs : List V} (h : DtAll H xs [d]) : ∃ x, xs = [x] ∧ Dt H x d := by
  obtain ⟨x, r, rfl, h1, h2⟩ := h.cons_
  cases h2.nil_
  exact ⟨x, rfl, h1⟩
theorem da2_ {xs : List V} (h : DtAll H xs [d1, d2]) : ∃ x y, xs = [x, y] ∧ Dt H x d1 ∧ Dt H y d2 := by
  obtain ⟨x, r, rfl, h1, h2⟩ := h.cons_
  obtain ⟨y, rfl, h3⟩ := da1_ h2
  exact ⟨x, y, rfl, h1, h3⟩
theorem da3_ {d3 : PyData} {xs : List V} (h : DtAll H xs [d1, d2, d3]) : ∃ x y z, xs = [x, y, z] ∧ Dt H x d1 ∧ Dt H y d2 ∧ Dt H z d3 := by
  obtain ⟨x, r, rfl, h1, h2⟩ := h.cons_
  obtain ⟨y, z, rfl, h3, h4⟩ := da2_ h2
  exact ⟨x, y, z, rfl, h1, h3, h4⟩
theorem da4_ {d3 d4 : PyData} {xs : List V} (h : DtAll H xs [d1, d2, d3, d4]) : ∃ x y z u, xs = [x, y, z, u] ∧ Dt H x d1 ∧ Dt H y d2 ∧ Dt H z d3 ∧ Dt H u d4 := by
  obtain ⟨x, r, rfl, h1, h2⟩ := h.cons_
  obtain ⟨y, z, u, rfl, h3, h4, h5⟩ := da3_ h2
  exact ⟨x, y, z, u, rfl, h1, h3, h4, h5⟩
/-- a built-in of one argument that gives a scalar -/
theorem cb1 {r : List V → Hp → VK → Prop} {z : V} (hz : sc d = some z) (h : ∀ H2 x, Dt H2 x d1 → ∀ Q : VK, Q z H2 → r [x] H2 Q) : CbD r F [d1] d := fun H1 H2 e e2 xs hx Q q => by
  obtain ⟨x, rfl, h1⟩ := da1_ hx
  exact h H2 x (h1.ex (nw_ex (e.trans e2))) Q (q z H2 (Ex.refl H2) (sc_dt hz))
abbrev rLenQ (K : PySem.W.Frag) : List V → Hp → VK → Prop := fun xs H Q => ∃ p ys, xs = [.ref p] ∧ (SqL K H p ys ∨ SqT K H p ys) ∧ Q (.int ys.length) H
theorem d_lenL {ds : List PyData} (h : EvD te σ F (.list ds)) : EvD (tCB (rLenQ K) (tCons te tNil)) σ F (.int (ds.length : Int)) := d_cb (da_cons h da_nil) (cb1 rfl fun H1 x hx Q q => by
  obtain ⟨a, ys, rfl, h2, h3⟩ := hx.list_
  exact ⟨a, ys, rfl, .inl (SqL.of h2), by rw [h3.len]; exact q⟩)
theorem d_lenT {ds : List PyData} (h : EvD te σ F (.tuple ds)) : EvD (tCB (rLenQ K) (tCons te tNil)) σ F (.int (ds.length : Int)) := d_cb (da_cons h da_nil) (cb1 rfl fun H1 x hx Q q => by
  obtain ⟨a, ys, rfl, h2, h3⟩ := hx.tuple_
  exact ⟨a, ys, rfl, .inr (SqT.of h2), by rw [h3.len]; exact q⟩)
theorem d_lenS {z : Str} (h : EvD te σ F (.str z)) (hz : z.length ≤ sizeLine) : EvD (tCB (fun xs H Q => ∃ z : Str, xs = [.str z] ∧ z.length ≤ sizeLine ∧ Q (.int z.length) H) (tCons te tNil)) σ F (.int (z.length : Int)) := d_cb (da_cons h da_nil) (cb1 rfl fun H1 x hx Q q => by
  cases hx.str_
  exact ⟨z, rfl, hz, q⟩)
abbrev rListQ (K : PySem.W.Frag) : List V → Hp → VK → Prop := fun xs H Q => ∃ p ys, xs = [.ref p] ∧ (SqL K H p ys ∨ SqT K H p ys) ∧ ∀ l, H l = none → Q (.ref l) (upd H l (.lst ys))
theorem d_listL {ds : List PyData} (h : EvD te σ F (.list ds)) : EvD (tCB (rListQ K) (tCons te tNil)) σ F (.list ds) := d_cb (da_cons h da_nil) fun H1 H2 e e2 xs hx Q q => by
  obtain ⟨x, rfl, h1⟩ := da1_ hx
  obtain ⟨a, ys, rfl, h2, h3⟩ := h1.list_
  exact ⟨a, ys, rfl, .inl (SqL.of (nw_ex (e.trans e2) _ _ h2)), fun l hl => q _ _ (Ex.new hl) (ls_new e2 hl h3)⟩
theorem d_listT {ds : List PyData} (h : EvD te σ F (.tuple ds)) : EvD (tCB (rListQ K) (tCons te tNil)) σ F (.list ds) := d_cb (da_cons h da_nil) fun H1 H2 e e2 xs hx Q q => by
  obtain ⟨x, rfl, h1⟩ := da1_ hx
  obtain ⟨a, ys, rfl, h2, h3⟩ := h1.tuple_
  exact ⟨a, ys, rfl, .inr (SqT.of (nw_ex (e.trans e2) _ _ h2)), fun l hl => q _ _ (Ex.new hl) (ls_new e2 hl h3)⟩
theorem d_allL {bs : List Bool} (h : EvD te σ F (.list (bs.map .bool))) : EvD (tCB (rAll K) (tCons te tNil)) σ F (.bool (bs.all id)) := d_cb (da_cons h da_nil) (cb1 rfl fun H1 x hx Q q => by
  obtain ⟨a, ys, rfl, h2, h3⟩ := hx.list_
  cases h3.bools_
  exact ⟨a, bs, rfl, SqL.of h2, q⟩)
theorem d_sumL {ns : List Int} (h : EvD te σ F (.list (ns.map .int))) : EvD (tCB (rSum K) (tCons te tNil)) σ F (.int ns.sum) := d_cb (da_cons h da_nil) (cb1 rfl fun H1 x hx Q q => by
  obtain ⟨a, ys, rfl, h2, h3⟩ := hx.list_
  cases h3.ints_
  exact ⟨a, ns, rfl, SqL.of h2, q⟩)
abbrev rIntQ : List V → Hp → VK → Prop := fun xs H Q => (∃ i, xs = [.int i] ∧ Q (.int i) H) ∨ ∃ k, xs = [.bl k] ∧ Q (.int (if k then 1 else 0)) H
theorem d_intI {i : Int} (h : EvD te σ F (.int i)) : EvD (tCB rIntQ (tCons te tNil)) σ F (.int i) := d_cb (da_cons h da_nil) (cb1 rfl fun H1 x hx Q q => by
  cases hx.int_
  exact .inl ⟨i, rfl, q⟩)
theorem d_intB {i : Bool} (h : EvD te σ F (.bool i)) : EvD (tCB rIntQ (tCons te tNil)) σ F (.int (if i then 1 else 0)) := d_cb (da_cons h da_nil) (cb1 rfl fun H1 x hx Q q => by
  cases hx.bool_
  exact .inr ⟨i, rfl, q⟩)
/-! isinstance of data -/
def tyD : PyData → Value
  | .none => .type "NoneType"
  | .bool _ => .type "bool"
  | .int _ => .type "int"
  | .str _ => .type "str"
  | .list _ => .type "list"
  | .tuple _ => .type "tuple"
  | .dict ((_, .int C) :: _) => .ref C.toNat
  | .dict _ => .type "dict"
/-- what stands for d is of this type -/
def HasTy (K : PySem.W.Frag) (d : PyData) : Prop := ∀ H v, Dt H v d → TyX K H v (tyD d)
def isIns : PyData → Bool
  | .dict (_ :: _) => true
  | _ => false
theorem ty_of (h : isIns d = false) : HasTy K d := fun H v hd => by
  cases hd with
  | non => exact .base .non
  | bl b => exact .base (.bl b)
  | int i => exact .base (.int i)
  | str x => exact .base (.str x)
  | lst h1 a => exact .base (.lst h1)
  | tup h1 a => exact .base (.tup h1)
  | emp h1 => exact .base (.dK h1)
  | ins h1 => cases h
theorem ty_ins {a C : Addr} (h : ∀ (H : Hp) (dx : Addr) (fs : List (Str × V)), H a = some (.ins C dx fs) → TyX K H (.ref a) (.ref C)) : HasTy K (.dict [(.int (a : Nat), .int (C : Nat))]) := fun H v hd => by
  generalize e : PyData.dict [(.int (a : Nat), .int (C : Nat))] = dd at hd
  cases hd with
  | @ins a' C' dx fs h1 =>
    have e1 : (a : Int) = (a' : Nat) := by injection e with e; injection e with e _; injection e with e _; injection e
    have e2 : (C : Int) = (C' : Nat) := by injection e with e; injection e with e _; injection e with _ e; injection e
    have e3 : a = a' := Int.ofNat.inj e1
    have e4 : C = C' := Int.ofNat.inj e2
    subst e3 e4
    exact h H dx fs h1
  | _ => cases e
theorem d_isi {n : String} {b : Bool} (h : EvD te σ F d) (ht : HasTy K d) (hb : PySem.W.kitOne K (tyD d) (.type n) = some b) : EvD (tCB (rIsi K) (tCons te (tCons (tC (.ty n)) tNil))) σ F (.bool b) := fun H1 e Q q =>
  h H1 e _ fun x H2 e2 hx => ⟨x, .ty n, _, _, b, rfl, .ty n, ht _ _ (hx.ex (nw_ex (e.trans e2))), hb, q _ H2 e2 (.bl b)⟩
/-- an own class -/
theorem d_isiO {C : Addr} {b : Bool} (h : EvD te σ F d) (ht : HasTy K d) (hb : PySem.W.kitOne K (tyD d) (.ref C) = some b) : EvD (tCB (rIsi K) (tCons te (tCons (tC (.ref C)) tNil))) σ F (.bool b) := fun H1 e Q q =>
  h H1 e _ fun x H2 e2 hx => ⟨x, .ref C, _, _, b, rfl, .own C, ht _ _ (hx.ex (nw_ex (e.trans e2))), hb, q _ H2 e2 (.bl b)⟩
theorem d_isiT2 {n1 n2 : String} {b : Bool} (h : EvD te σ F d) (ht : HasTy K d) (hb : PySem.W.kitAny K (tyD d) [.type n1, .type n2] = some b) : EvD (tCB (rIsiT K) (tCons te (tCons (tTup (tCons (tC (.ty n1)) (tCons (tC (.ty n2)) tNil))) tNil))) σ F (.bool b) := fun H1 e Q q =>
  h H1 e _ fun x H2 e2 hx => ⟨(show 2 ≤ sizeLine by decide), fun p hp => ⟨x, p, [.ty n1, .ty n2], _, [.type n1, .type n2], b, rfl, upd_same, .cons (.ty n1) (.cons (.ty n2) .nil), ht _ _ (hx.ex ((nw_ex (e.trans e2)).trans (Ex.new hp))), hb, q _ _ (e2.trans (Ex.new hp)) (.bl b)⟩⟩
theorem d_isiT4 {n1 n2 n3 n4 : String} {b : Bool} (h : EvD te σ F d) (ht : HasTy K d) (hb : PySem.W.kitAny K (tyD d) [.type n1, .type n2, .type n3, .type n4] = some b) : EvD (tCB (rIsiT K) (tCons te (tCons (tTup (tCons (tC (.ty n1)) (tCons (tC (.ty n2)) (tCons (tC (.ty n3)) (tCons (tC (.ty n4)) tNil))))) tNil))) σ F (.bool b) := fun H1 e Q q =>
  h H1 e _ fun x H2 e2 hx => ⟨(show 4 ≤ sizeLine by decide), fun p hp => ⟨x, p, [.ty n1, .ty n2, .ty n3, .ty n4], _, [.type n1, .type n2, .type n3, .type n4], b, rfl, upd_same, .cons (.ty n1) (.cons (.ty n2) (.cons (.ty n3) (.cons (.ty n4) .nil))), ht _ _ (hx.ex ((nw_ex (e.trans e2)).trans (Ex.new hp))), hb, q _ _ (e2.trans (Ex.new hp)) (.bl b)⟩⟩
/-! calls -/
/-- a promise about data alone: c the arguments' data, the answer's; F what the caller lets be known -/
def SpD (c : List PyData → PyData → Prop) : Sp := fun vs H Q _ => ∃ F ds r, Ex F H ∧ DtAll F vs ds ∧ c ds r ∧ ∀ v H', Ex H H' → Dt (nw F H H') v r → Q v H'
theorem SpD.len {c : List PyData → PyData → Prop} {n : Nat} (h : ∀ ds r, c ds r → ds.length = n) (vs : List V) (H : Hp) (Q : VK) (E : XK) (s : SpD c vs H Q E) : vs.length = n := by
  obtain ⟨F, ds, r, _, h1, h2, _⟩ := s
  rw [h1.len, h ds r h2]
theorem d_call {c : List PyData → PyData → Prop} {E : XK} {ta : TA} {ds : List PyData} (h : EvDA ta σ F ds) (hc : c ds d) : EvD (tCall (SpD c) [] E ta) σ F d := fun H1 e Q q =>
  h H1 e _ fun xs H2 e2 hx => by
    show SpD c (xs ++ []) H2 Q E
    rw [List.append_nil]
    refine ⟨nw F H1 H2, ds, d, nw_ex (e.trans e2), hx, hc, fun v H3 e3 hv => q v H3 (e2.trans e3) (hv.ex ?_)⟩
    intro a o ha
    cases z : H2 a with
    | none =>
      rw [nw_n z] at ha
      rw [nw_n (exdm e2 a z)]
      exact ha
    | some u =>
      rw [nw_s z] at ha
      exact nw_r (exexn e3) a o ha
end
end WB
/-! Statements over what is known. -/
namespace WB
open PySem PySem.Spec PyProof.Rows L2 Evl

/-- behind a call's start (F0 known of H0) F is known of H; M may be written -/
structure Kn (M : Addr → Prop) (F0 H0 F H : Hp) : Prop where
  f : Ex F0 F
  fh : Ex F H
  h : ∀ a o, ¬ M a → H0 a = some o → H a = some o
  dm : Dm H0 H
  nw : Ex F (nw F0 H0 H)
  md : ∀ a, M a → F a = none
  mh : ∀ a, M a → H0 a ≠ none
/-- nothing may be written -/
abbrev M0 : Addr → Prop := fun _ => False
section
variable {M : Addr → Prop} {F0 H0 F H F1 H1 F2 H2 : Hp}
theorem Kn.start (e : Ex F0 H0) : Kn M0 F0 H0 F0 H0 := ⟨Ex.refl _, e, fun _ _ _ h => h, Dm.refl _, ex_nw e, fun _ z => z.elim, fun _ z => z.elim⟩
theorem Kn.startM (e : Ex F0 H0) (md : ∀ a, M a → F0 a = none) (mh : ∀ a, M a → H0 a ≠ none) : Kn M F0 H0 F0 H0 := ⟨Ex.refl _, e, fun _ _ _ h => h, Dm.refl _, ex_nw e, md, mh⟩
/-- a change that keeps all but M -/
structure ExM (M : Addr → Prop) (H H1 : Hp) : Prop where
  k : ∀ a o, ¬ M a → H a = some o → H1 a = some o
  d : Dm H H1
theorem ExM.of (e : Ex H H1) : ExM M H H1 := ⟨fun a o _ h => e a o h, exdm e⟩
theorem ExM.trans (a : ExM M H H1) (b : ExM M H1 H2) : ExM M H H2 := ⟨fun c o n h => b.k c o n (a.k c o n h), a.d.trans b.d⟩
theorem ExM.ex (a : ExM M0 H H1) : Ex H H1 := fun c o h => a.k c o (fun z => z) h
/-- a step: from F known of H to F1 known of H1 -/
structure Stp (M : Addr → Prop) (F0 H0 F H F1 H1 : Hp) : Prop where
  kn : Kn M F0 H0 F1 H1
  ff : Ex F F1
  hm : ExM M H H1
  fr : ∀ a o, H a = some o → F a = none → F1 a = none
theorem Stp.hh (s : Stp M0 F0 H0 F H F1 H1) : Ex H H1 := s.hm.ex
/-- an address that is not known and not in M stands as it stood -/
theorem Stp.at_ {a : Addr} {o : HO} (s : Stp M F0 H0 F H F1 H1) (h : H a = some o) (n : ¬ M a) : H1 a = some o := s.hm.k a o n h
theorem Stp.trans (s : Stp M F0 H0 F H F1 H1) (t : Stp M F0 H0 F1 H1 F2 H2) : Stp M F0 H0 F H F2 H2 := ⟨t.kn, s.ff.trans t.ff, s.hm.trans t.hm, fun a o h n => by
  cases q : H1 a with
  | none => exact absurd (s.hm.d a q) (by rw [h]; intro z; cases z)
  | some u => exact t.fr a u q (s.fr a o h n)⟩
theorem Kn.stp (k : Kn M F0 H0 F H) : Stp M F0 H0 F H F H := ⟨k, Ex.refl _, ⟨fun _ _ _ h => h, Dm.refl _⟩, fun _ _ _ h => h⟩
theorem Kn.stepM (k : Kn M F0 H0 F H) (e : ExM M H H1) : Stp M F0 H0 F H (WB.nw F H H1) H1 where
  kn := {
    f := k.f.trans (ex_nw k.fh)
    fh := fun a o h => by
      cases q : H a with
      | none => rw [nw_n q] at h; exact h
      | some u =>
        rw [nw_s q] at h
        exact e.k a o (fun z => by rw [k.md a z] at h; cases h) (k.fh a o h)
    h := fun a o n h => e.k a o n (k.h a o n h)
    dm := k.dm.trans e.d
    nw := fun a o h => by
      cases q : H a with
      | none => rw [nw_n q] at h; rw [nw_n (k.dm a q)]; exact h
      | some u =>
        rw [nw_s q] at h
        have z := k.nw a o h
        cases q0 : H0 a with
        | none =>
          rw [nw_n q0] at z ⊢
          exact e.k a o (fun m => k.mh a m q0) z
        | some u0 => rw [nw_s q0] at z ⊢; exact z
    md := fun a m => by
      cases q : H a with
      | none => exact absurd (k.dm a q) (k.mh a m)
      | some u => rw [nw_s q]; exact k.md a m
    mh := k.mh }
  ff := ex_nw k.fh
  hm := e
  fr := fun a o h n => by rw [nw_s h]; exact n
/-- a step that writes nothing -/
structure StpE (M : Addr → Prop) (F0 H0 F H F1 H1 : Hp) : Prop extends Stp M F0 H0 F H F1 H1 where
  ex : Ex H H1
theorem StpE.trans (s : StpE M F0 H0 F H F1 H1) (t : StpE M F0 H0 F1 H1 F2 H2) : StpE M F0 H0 F H F2 H2 := ⟨s.toStp.trans t.toStp, s.ex.trans t.ex⟩
theorem Kn.step (k : Kn M F0 H0 F H) (e : Ex H H1) : StpE M F0 H0 F H (WB.nw F H H1) H1 := ⟨k.stepM (ExM.of e), e⟩
/-- a list of one's own, not known, is written -/
theorem Kn.upd_ {l : Addr} {o : HO} (k : Kn M F0 H0 F H) (hl : F l = none) (h0 : H0 l = none) : Kn M F0 H0 F (upd H l o) where
  f := k.f
  fh := fun a u h => by
    rw [upd_ne (fun z => by rw [z, hl] at h; cases h)]
    exact k.fh a u h
  h := fun a u n h => by
    rw [upd_ne (fun z => by rw [z, h0] at h; cases h)]
    exact k.h a u n h
  dm := fun a h => by
    by_cases z : a = l
    · rw [z]; exact h0
    · rw [upd_ne z] at h; exact k.dm a h
  nw := fun a u h => by
    have z : a ≠ l := fun z => by rw [z, hl] at h; cases h
    have q := k.nw a u h
    cases q0 : H0 a with
    | none => rw [nw_n q0] at q ⊢; rw [upd_ne z]; exact q
    | some u0 => rw [nw_s q0] at q ⊢; exact q
  md := k.md
  mh := k.mh
/-- .. and is known from now on -/
theorem Kn.know {l : Addr} {o : HO} (k : Kn M F0 H0 F H) (hl : F l = none) (h0 : H0 l = none) (hh : H l = some o) : Kn M F0 H0 (upd F l o) H where
  f := fun a u h => by
    rw [upd_ne (fun z => by rw [z] at h; rw [k.f l u h] at hl; cases hl)]
    exact k.f a u h
  fh := fun a u h => by
    by_cases z : a = l
    · rw [z, upd_same] at h; rw [z]; cases h; exact hh
    · rw [upd_ne z] at h; exact k.fh a u h
  h := k.h
  dm := k.dm
  nw := fun a u h => by
    by_cases z : a = l
    · rw [z, upd_same] at h; rw [z, nw_n h0]; cases h; exact hh
    · rw [upd_ne z] at h; exact k.nw a u h
  md := fun a m => by
    have z : a ≠ l := fun z => by rw [z] at m; exact k.mh l m h0
    rw [upd_ne z]; exact k.md a m
  mh := k.mh
theorem ex_know {l : Addr} {o : HO} (hl : F l = none) : Ex F (upd F l o) := fun a u h => by
  rw [upd_ne (fun z => by rw [z, hl] at h; cases h)]
  exact h
end

section
variable {M : Addr → Prop} {K : PySem.W.Frag} {F0 H0 F H : Hp} {σ : L2.St} {ta tb te tx : TE} {t u : TT} {d d1 d2 d3 : PyData} {v : V} {D : Ends} {tu tw : TS} {g : TG}
/-- an expression's data behind a step -/
theorem k_ev (kn : Kn M F0 H0 F H) (h : EvD te σ F d) (Q : VK) (k : ∀ v F1 H1, StpE M F0 H0 F H F1 H1 → Dt F1 v d → Q v H1) : te σ H Q := h H kn.fh Q fun v H1 e hv => k v _ H1 (kn.step e) hv
theorem k_eva {ta : TA} {ds : List PyData} (kn : Kn M F0 H0 F H) (h : EvDA ta σ F ds) (Q : List V → Hp → Prop) (k : ∀ vs F1 H1, StpE M F0 H0 F H F1 H1 → DtAll F1 vs ds → Q vs H1) : ta σ H Q := h H kn.fh Q fun v H1 e hv => k v _ H1 (kn.step e) hv
theorem k_asg {i : Nat} (kn : Kn M F0 H0 F H) (h : EvD te σ F d) (k : ∀ v F1 H1, StpE M F0 H0 F H F1 H1 → Dt F1 v d → D.nx (σ.set i (some v)) H1) : tAsg te (gName i) D σ H := k_ev kn h _ k
theorem k_ret (kn : Kn M F0 H0 F H) (h : EvD te σ F d) (k : ∀ v F1 H1, StpE M F0 H0 F H F1 H1 → Dt F1 v d → D.rt v H1) : tRet te D σ H := k_ev kn h _ k
theorem k_drop (kn : Kn M F0 H0 F H) (h : EvD te σ F d) (k : ∀ F1 H1, StpE M F0 H0 F H F1 H1 → D.nx σ H1) : tDrop te D σ H := k_ev kn h _ fun _ F1 H1 s _ => k F1 H1 s
theorem k_unp2 {i j : Nat} (kn : Kn M F0 H0 F H) (h : EvD te σ F (.tuple [d1, d2])) (k : ∀ x y F1 H1, StpE M F0 H0 F H F1 H1 → Dt F1 x d1 → Dt F1 y d2 → D.nx ((σ.set i (some x)).set j (some y)) H1) : tAsg te (gTup K 2 (gCons (gName i) (gCons (gName j) gNil))) D σ H := k_ev kn h _ fun v F1 H1 s hv => by
  obtain ⟨a, xs, rfl, h1, h2⟩ := hv.tuple_
  obtain ⟨x, y, rfl, h3, h4⟩ := da2_ h2
  exact ⟨a, _, rfl, SqT.of (s.kn.fh _ _ h1), rfl, x, [y], rfl, y, [], rfl, rfl, k x y F1 H1 s h3 h4⟩
theorem k_unp3 {i j l : Nat} (kn : Kn M F0 H0 F H) (h : EvD te σ F (.tuple [d1, d2, d3])) (k : ∀ x y z F1 H1, StpE M F0 H0 F H F1 H1 → Dt F1 x d1 → Dt F1 y d2 → Dt F1 z d3 → D.nx (((σ.set i (some x)).set j (some y)).set l (some z)) H1) : tAsg te (gTup K 3 (gCons (gName i) (gCons (gName j) (gCons (gName l) gNil)))) D σ H := k_ev kn h _ fun v F1 H1 s hv => by
  obtain ⟨a, xs, rfl, h1, h2⟩ := hv.tuple_
  obtain ⟨x, y, z, rfl, h3, h4, h5⟩ := da3_ h2
  exact ⟨a, _, rfl, SqT.of (s.kn.fh _ _ h1), rfl, x, [y, z], rfl, y, [z], rfl, z, [], rfl, rfl, k x y z F1 H1 s h3 h4 h5⟩
theorem k_par {i j : Nat} (kn : Kn M F0 H0 F H) (ha : EvD ta σ F d1) (hb : EvD tb σ F d2) (k : ∀ x y F1 H1, StpE M F0 H0 F H F1 H1 → Dt F1 x d1 → Dt F1 y d2 → D.nx ((σ.set i (some x)).set j (some y)) H1) : tPar i j (tCons ta (tCons tb tNil)) D σ H :=
  k_eva kn (da_cons ha (da_cons hb da_nil)) _ fun vs F1 H1 s h => by
    obtain ⟨x, y, rfl, h1, h2⟩ := da2_ h
    exact ⟨x, y, rfl, k x y F1 H1 s h1 h2⟩
theorem k_if {b : Bool} (kn : Kn M F0 H0 F H) (h : EvT t σ F b) (h1 : b = true → ∀ F1 H1, StpE M F0 H0 F H F1 H1 → tu D σ H1) (h2 : b = false → ∀ F1 H1, StpE M F0 H0 F H F1 H1 → tw D σ H1) : tIfS t tu tw D σ H := h H kn.fh _ fun H1 e => by
  cases b with
  | true => exact h1 rfl _ H1 (kn.step e)
  | false => exact h2 rfl _ H1 (kn.step e)
theorem k_aug {i : Nat} {f : Int → Int → Int} {a b : Int} (kn : Kn M F0 H0 F H) (hx : σ[i]? = some (some (.int a))) (h : EvD te σ F (.int b)) (k : ∀ F1 H1, StpE M F0 H0 F H F1 H1 → D.nx (σ.set i (some (.int (f a b)))) H1) : tAug i te (ipI f) D σ H :=
  ⟨.int a, hx, k_ev kn h _ fun v F1 H1 s hv => by
    cases hv.int_
    exact ⟨a, b, rfl, rfl, k F1 H1 s⟩⟩
/-- name = [..], a list of one's own -/
theorem k_new {i : Nat} {ta : TA} {ds : List PyData} (kn : Kn M F0 H0 F H) (h : EvDA ta σ F ds) (hz : ds.length ≤ 100000) (k : ∀ l xs F1 H1, StpE M F0 H0 F H F1 H1 → F1 l = none → H0 l = none → H1 l = some (.lst xs) → DtAll F1 xs ds → D.nx (σ.set i (some (.ref l))) H1) : tAsg (tLst ta) (gName i) D σ H :=
  h H kn.fh _ fun xs H1 e hx => ⟨by rw [hx.len]; exact sz_of hz, fun l hl => by
    have s := kn.step e
    have s2 : StpE M F0 H0 F H (WB.nw F H H1) (upd H1 l (.lst xs)) := ⟨⟨s.kn.upd_ (by rw [nw_n (exdm e l hl), hl]) (s.kn.dm l hl), s.ff, s.hm.trans (ExM.of (Ex.new hl)), s.fr⟩, e.trans (Ex.new hl)⟩
    exact k l xs _ _ s2 (by rw [nw_n (exdm e l hl), hl]) (s.kn.dm l hl) upd_same hx⟩
/-- xs.append(e), a list of one's own -/
theorem k_app {l : Addr} {xs : List V} (kn : Kn M F0 H0 F H) (hl : H l = some (.lst xs)) (hF : F l = none) (h0 : H0 l = none) (ha : Ev ta σ H (.ref l)) (h : EvD te σ F d) (hz : xs.length < 100000)
    (k : ∀ v F1 H1, Kn M F0 H0 F1 H1 → Ex F F1 → F1 l = none → Dt F1 v d → H1 l = some (.lst (xs ++ [v])) → (∀ a o, a ≠ l → H a = some o → H1 a = some o) → (∀ a o, H a = some o → F a = none → F1 a = none) → D.nx σ H1) :
    tDrop (tBM K "list" rAppend ta (tCons te tNil)) D σ H := ha H (Ex.refl H) _ fun H1 e1 =>
  ⟨Or.inl ⟨rfl, xs, sq_of (e1 l _ hl)⟩, h H1 (kn.fh.trans e1) _ fun v H2 e2 hv => ⟨l, xs, v, rfl, rfl, e2 l _ (e1 l _ hl), sz_lt hz, by
    have s := kn.step (e1.trans e2)
    have n := s.fr l _ hl hF
    refine k v _ _ (s.kn.upd_ n h0) s.ff n (hv.ex (nw_l kn.fh (exdm e1))) upd_same (fun a o ne h => by rw [upd_ne ne]; exact e2 a o (e1 a o h)) s.fr⟩⟩
end
end WB
/-! Walks over data: for, comprehensions. -/
namespace WB
open PySem PySem.Spec PyProof.Rows L2 Evl

/-- all but l -/
def but (G : Hp) (l : Addr) : Hp := fun a => if a = l then none else G a
theorem but_same {G : Hp} {l : Addr} : but G l l = none := if_pos rfl
theorem but_ne {G : Hp} {l a : Addr} (h : a ≠ l) : but G l a = G a := if_neg h
/-- a walk that yields these, from every heap over G -/
structure ItD (J : It) (G : Hp) (items : List PyData) : Prop where
  go : ∀ i H, Ex G H → i < items.length → J.go i H
  yld : ∀ i H x H', Ex G H → i < items.length → J.yld i H x H' → Ex H H' ∧ ∀ d, items[i]? = some d → Dt (nw G H H') x d
  stop : ∀ i H, Ex G H → items.length ≤ i → J.stop i H
def WkD (wi : TI) (σ : L2.St) (F : Hp) (items : List PyData) : Prop := ∀ H1, Ex F H1 → ∀ R : It → Hp → Prop, (∀ J H2, Ex H1 H2 → ItD J (nw F H1 H2) items → R J H2) → wi σ H1 R
section
variable {K : PySem.W.Frag} {σ : L2.St} {F F' H H' : Hp} {ta tb te tx tl : TE} {t u : TT} {d d1 d2 : PyData} {v : V} {r : R2} {ds : List PyData} {wi : TI}
theorem WkD.mono (e : Ex F F') (h : WkD wi σ F ds) : WkD wi σ F' ds := fun H1 a R q => h H1 (e.trans a) R fun J H2 e2 hj => q J H2 e2 ⟨fun i H x y => hj.go i H ((nw_f e).trans x) y, fun i H x H' a b c => by
    obtain ⟨h1, h2⟩ := hj.yld i H x H' ((nw_f e).trans a) b c
    exact ⟨h1, fun d hd => (h2 d hd).ex (nw_f (nw_f e))⟩, fun i H x y => hj.stop i H ((nw_f e).trans x) y⟩
theorem itd_list {G : Hp} {a : Addr} {xs : List V} (h : G a = some (.lst xs)) (hd : DtAll G xs ds) : ItD (Itl K a) G ds where
  go := fun i H e hi => by
    have hl : i < xs.length := by rw [hd.len]; exact hi
    exact ⟨xs, xs[i], SqL.of (e _ _ h), List.getElem?_eq_getElem hl⟩
  yld := fun i H x H' e hi ⟨e1, e2⟩ => by
    subst e1
    refine ⟨Ex.refl _, fun d hdd => ?_⟩
    obtain ⟨v, h1, h2⟩ := hd.get hdd
    have z := e2 xs (SqL.of (e _ _ h))
    rw [h1] at z
    cases z
    exact h2.ex (ex_nw e)
  stop := fun i H e hi => ⟨xs, SqL.of (e _ _ h), by rw [hd.len]; exact hi⟩
theorem itd_tup {G : Hp} {a : Addr} {xs : List V} (h : G a = some (.tup xs)) (hd : DtAll G xs ds) : ItD (Itt K a) G ds where
  go := fun i H e hi => by
    have hl : i < xs.length := by rw [hd.len]; exact hi
    exact ⟨xs, xs[i], SqT.of (e _ _ h), List.getElem?_eq_getElem hl⟩
  yld := fun i H x H' e hi ⟨e1, e2⟩ => by
    subst e1
    refine ⟨Ex.refl _, fun d hdd => ?_⟩
    obtain ⟨v, h1, h2⟩ := hd.get hdd
    have z := e2 xs (SqT.of (e _ _ h))
    rw [h1] at z
    cases z
    exact h2.ex (ex_nw e)
  stop := fun i H e hi => ⟨xs, SqT.of (e _ _ h), by rw [hd.len]; exact hi⟩
theorem wk_list (h : EvD tl σ F (.list ds)) : WkD (iList K tl) σ F ds := fun H1 e R q => h H1 e _ fun v H2 e2 hv => by
  obtain ⟨a, xs, rfl, h1, h2⟩ := hv.list_
  exact ⟨a, rfl, ⟨xs, SqL.of (nw_ex (e.trans e2) _ _ h1)⟩, q _ H2 e2 (itd_list h1 h2)⟩
theorem wk_tup (h : EvD tl σ F (.tuple ds)) : WkD (iTup K tl) σ F ds := fun H1 e R q => h H1 e _ fun v H2 e2 hv => by
  obtain ⟨a, xs, rfl, h1, h2⟩ := hv.tuple_
  exact ⟨a, rfl, ⟨xs, SqT.of (nw_ex (e.trans e2) _ _ h1)⟩, q _ H2 e2 (itd_tup h1 h2)⟩
/-- lo, lo + 1, .. -/
def rngD (lo : Int) (n : Nat) : List PyData := (List.range n).map fun i => PyData.int (lo + (i : Nat))
theorem rngD_len (lo : Int) (n : Nat) : (rngD lo n).length = n := by unfold rngD; rw [List.length_map, List.length_range]
theorem rngD_get {lo : Int} {n i : Nat} (h : i < n) : (rngD lo n)[i]? = some (.int (lo + (i : Nat))) := by
  unfold rngD
  rw [List.getElem?_map, List.getElem?_range h]
  rfl
theorem itd_rng {G : Hp} {lo : Int} {n : Nat} : ItD (Itr lo n) G (rngD lo n) where
  go := fun i H e hi => by rw [rngD_len] at hi; exact hi
  yld := fun i H x H' e hi ⟨e1, e2⟩ => by
    subst e1 e2
    rw [rngD_len] at hi
    refine ⟨Ex.refl _, fun d hdd => ?_⟩
    rw [rngD_get hi] at hdd
    cases hdd
    exact .int _
  stop := fun i H e hi => by rw [rngD_len] at hi; exact hi
theorem wk_rng1 {ta : TA} {n : Int} (h : EvDA ta σ F [.int n]) (hn : -(2 ^ 62) ≤ n ∧ n < 2 ^ 62) : WkD (iRng1 ta) σ F (rngD 0 n.toNat) := fun H1 e R q => h H1 e _ fun vs H2 e2 hv => by
  obtain ⟨x, rfl, hx⟩ := da1_ hv
  cases hx.int_
  exact ⟨n, rfl, hn.1, hn.2, q _ H2 e2 itd_rng⟩
theorem wk_rng2 {ta : TA} {lo n : Int} (h : EvDA ta σ F [.int lo, .int n]) (hn : -(2 ^ 62) ≤ lo ∧ lo < 2 ^ 62 ∧ -(2 ^ 62) ≤ n ∧ n < 2 ^ 62) : WkD (iRng2 ta) σ F (rngD lo (n - lo).toNat) := fun H1 e R q => h H1 e _ fun vs H2 e2 hv => by
  obtain ⟨x, y, rfl, hx, hy⟩ := da2_ hv
  cases hx.int_
  cases hy.int_
  exact ⟨lo, n, rfl, hn, q _ H2 e2 itd_rng⟩
/-- enumerate -/
def enumD (ds : List PyData) : List PyData := ds.mapIdx fun i d => PyData.tuple [.int (i : Nat), d]
theorem enumD_len (ds : List PyData) : (enumD ds).length = ds.length := by unfold enumD; rw [List.length_mapIdx]
theorem enumD_get {ds : List PyData} {i : Nat} {d : PyData} (h : ds[i]? = some d) : (enumD ds)[i]? = some (.tuple [.int (i : Nat), d]) := by
  unfold enumD
  rw [List.getElem?_mapIdx, h]
  rfl
theorem itd_enum {G : Hp} {a : Addr} {xs : List V} (h : G a = some (.lst xs)) (hd : DtAll G xs ds) : ItD (Ite K a) G (enumD ds) where
  go := fun i H e hi => by
    rw [enumD_len] at hi
    have hl : i < xs.length := by rw [hd.len]; exact hi
    exact ⟨xs, xs[i], SqL.of (e _ _ h), List.getElem?_eq_getElem hl⟩
  yld := fun i H x H' e hi ⟨T, y, e1, hT, e2, e3⟩ => by
    subst e1 e2
    rw [enumD_len] at hi
    refine ⟨Ex.new hT, fun d hdd => ?_⟩
    have hi2 : ds[i]? = some ds[i] := List.getElem?_eq_getElem hi
    obtain ⟨v, h1, h2⟩ := hd.get hi2
    rw [enumD_get hi2] at hdd
    cases hdd
    have z := e3 xs (SqL.of (e _ _ h))
    rw [h1] at z
    cases z
    exact .tup (by rw [nw_n hT, upd_same]) (.cons (.int _) (.cons (h2.ex (ex_nw e)) .nil))
  stop := fun i H e hi => by
    rw [enumD_len] at hi
    exact ⟨xs, SqL.of (e _ _ h), by rw [hd.len]; exact hi⟩
theorem wk_enum {ta : TA} (h : EvDA ta σ F [.list ds]) : WkD (iEnum K ta) σ F (enumD ds) := fun H1 e R q => h H1 e _ fun vs H2 e2 hv => by
  obtain ⟨x, rfl, hx⟩ := da1_ hv
  obtain ⟨a, xs, rfl, h1, h2⟩ := hx.list_
  exact ⟨a, xs, rfl, SqL.of (nw_ex (e.trans e2) _ _ h1), q _ H2 e2 (itd_enum h1 h2)⟩
/-- zip of two lists -/
def zipD (ds es : List PyData) : List PyData := List.zipWith (fun d e => PyData.tuple [d, e]) ds es
theorem itd_zip {G : Hp} {a b : Addr} {xs ys : List V} {es : List PyData} (h : G a = some (.lst xs)) (hd : DtAll G xs ds) (h' : G b = some (.lst ys)) (he : DtAll G ys es) : ItD (Itz K a b) G (zipD ds es) where
  go := fun i H e hi => by
    unfold zipD at hi
    rw [List.length_zipWith] at hi
    have hl : i < xs.length := by rw [hd.len]; omega
    have hl' : i < ys.length := by rw [he.len]; omega
    exact ⟨xs, ys, xs[i], ys[i], SqL.of (e _ _ h), SqL.of (e _ _ h'), List.getElem?_eq_getElem hl, List.getElem?_eq_getElem hl'⟩
  yld := fun i H x H' e hi ⟨T, y, z, e1, hT, e2, e3, e4⟩ => by
    subst e1 e2
    unfold zipD at hi
    rw [List.length_zipWith] at hi
    refine ⟨Ex.new hT, fun d hdd => ?_⟩
    have hi2 : ds[i]? = some ds[i] := List.getElem?_eq_getElem (by omega)
    have hi3 : es[i]? = some es[i] := List.getElem?_eq_getElem (by omega)
    obtain ⟨v, h1, h2⟩ := hd.get hi2
    obtain ⟨v', h1', h2'⟩ := he.get hi3
    unfold zipD at hdd
    rw [List.getElem?_zipWith, hi2, hi3] at hdd
    cases hdd
    have z1 := e3 xs (SqL.of (e _ _ h))
    rw [h1] at z1
    cases z1
    have z2 := e4 ys (SqL.of (e _ _ h'))
    rw [h1'] at z2
    cases z2
    exact .tup (by rw [nw_n hT, upd_same]) (.cons (h2.ex (ex_nw e)) (.cons (h2'.ex (ex_nw e)) .nil))
  stop := fun i H e hi => by
    unfold zipD at hi
    rw [List.length_zipWith] at hi
    refine ⟨xs, ys, SqL.of (e _ _ h), SqL.of (e _ _ h'), ?_⟩
    rw [hd.len, he.len]
    omega
theorem wk_zip {ta : TA} {es : List PyData} (h : EvDA ta σ F [.list ds, .list es]) : WkD (iZip K ta) σ F (zipD ds es) := fun H1 e R q => h H1 e _ fun vs H2 e2 hv => by
  obtain ⟨x, y, rfl, hx, hy⟩ := da2_ hv
  obtain ⟨a, xs, rfl, h1, h2⟩ := hx.list_
  obtain ⟨b, ys, rfl, h3, h4⟩ := hy.list_
  exact ⟨a, b, xs, ys, rfl, SqL.of (nw_ex (e.trans e2) _ _ h1), SqL.of (nw_ex (e.trans e2) _ _ h3), q _ H2 e2 (itd_zip h1 h2 h3 h4)⟩
end
section
variable {M : Addr → Prop} {K : PySem.W.Frag} {F0 H0 F H : Hp} {σ : L2.St} {ta tb te tx : TE} {t u : TT} {d d1 d2 d3 : PyData} {v : V} {D : Ends} {tu tw : TS} {g : TG} {wi : TI} {items : List PyData}
/-- targets -/
theorem gt2 {i j : Nat} {x : V} {Q : L2.St → Hp → Prop} (h : Dt F x (.tuple [d1, d2])) (e : Ex F H) (k : ∀ y z, Dt F y d1 → Dt F z d2 → Q ((σ.set i (some y)).set j (some z)) H) : gTup K 2 (gCons (gName i) (gCons (gName j) gNil)) x σ H Q := by
  obtain ⟨a, xs, rfl, h1, h2⟩ := h.tuple_
  obtain ⟨y, z, rfl, h3, h4⟩ := da2_ h2
  exact ⟨a, _, rfl, SqT.of (e _ _ h1), rfl, y, [z], rfl, z, [], rfl, rfl, k y z h3 h4⟩
theorem gt12 {i j l : Nat} {x : V} {Q : L2.St → Hp → Prop} (h : Dt F x (.tuple [d1, .tuple [d2, d3]])) (e : Ex F H) (k : ∀ y z w, Dt F y d1 → Dt F z d2 → Dt F w d3 → Q (((σ.set i (some y)).set j (some z)).set l (some w)) H) :
    gTup K 2 (gCons (gName i) (gCons (gTup K 2 (gCons (gName j) (gCons (gName l) gNil))) gNil)) x σ H Q := by
  obtain ⟨a, xs, rfl, h1, h2⟩ := h.tuple_
  obtain ⟨y, z, rfl, h3, h4⟩ := da2_ h2
  refine ⟨a, _, rfl, SqT.of (e _ _ h1), rfl, y, [z], rfl, z, [], rfl, ?_⟩
  exact gt2 (σ := σ.set i (some y)) h4 e fun p q hp hq => ⟨rfl, k y p q h3 hp hq⟩
/-- for: I, the word of the turn -/
theorem k_for (kn : Kn M F0 H0 F H) (h : WkD wi σ F items) (I : Nat → L2.St → Hp → Hp → Prop)
    (h0 : ∀ F1 H1, StpE M F0 H0 F H F1 H1 → I 0 σ F1 H1)
    (hI : ∀ i σ' F' H' H2, I i σ' F' H' → Kn M F0 H0 F' H' → Ex H' H2 → I i σ' (nw F' H' H2) H2)
    (hs : ∀ i d x σ' F' H', items[i]? = some d → Kn M F0 H0 F' H' → Ex F F' → Dt F' x d → I i σ' F' H' →
      ∀ N : L2.St → Hp → Prop, (∀ σ2 F2 H2, Kn M F0 H0 F2 H2 → Ex F' F2 → I (i + 1) σ2 F2 H2 → N σ2 H2) → g x σ' H' fun σ2 H2 => tu { D with nx := N, ct := N, bk := D.nx } σ2 H2)
    (hd : ∀ σ' F' H', Kn M F0 H0 F' H' → Ex F F' → I items.length σ' F' H' → D.nx σ' H') : tFor wi g tu D σ H := h H kn.fh _ fun J H1 e hj => by
  have s := kn.step (H1 := H1) e
  refine ⟨fun i m σ' H' => m = items.length - i ∧ i ≤ items.length ∧ ∃ F', Kn M F0 H0 F' H' ∧ Ex (nw F H H1) F' ∧ I i σ' F' H', ⟨items.length, by simp, Nat.zero_le _, _, s.kn, Ex.refl _, h0 _ _ s⟩, ?_⟩
  rintro i m σ' H' ⟨rfl, hi, F', kn', e', p⟩
  by_cases hlt : i < items.length
  · refine .inr ⟨hj.go i H' (e'.trans kn'.fh) hlt, fun σ2 H2 => ∃ F2, Kn M F0 H0 F2 H2 ∧ Ex (nw F H H1) F2 ∧ I (i + 1) σ2 F2 H2, fun σ2 H2 ⟨F2, k2, e2, p2⟩ => ⟨items.length - (i + 1), by omega, rfl, hlt, F2, k2, e2, p2⟩, fun x H2 y => ?_⟩
    obtain ⟨e2, hx⟩ := hj.yld i H' x H2 (e'.trans kn'.fh) hlt y
    have hd := hx items[i] (List.getElem?_eq_getElem hlt)
    have s2 := kn'.step (H1 := H2) e2
    exact hs i items[i] x σ' _ H2 (List.getElem?_eq_getElem hlt) s2.kn ((s.ff.trans e').trans s2.ff) (hd.ex (nw_f e')) (hI i σ' F' H' H2 p kn' e2) _ fun σ3 F3 H3 k3 e3 p3 => ⟨F3, k3, (e'.trans s2.ff).trans e3, p3⟩
  · have ei : i = items.length := by omega
    subst ei
    exact .inl ⟨hj.stop _ H' (e'.trans kn'.fh) (Nat.le_refl _), hd σ' F' H' kn' (s.ff.trans e') p⟩
/-- the items of a comprehension: at turn i, the item d, b: is it taken, r: what is made of it -/
theorem d_lc {vs : List Nat} (h : WkD wi σ F items) (hz : items.length ≤ 40000) (b : Nat → Bool) (r : Nat → PyData)
    (hs : ∀ i d x F' H', items[i]? = some d → Ex F F' → Ex F' H' → Dt F' x d → ∀ Q : L2.St → Hp → Prop, (∀ σ2, wipe σ2 vs = wipe σ vs → EvT t σ2 F' (b i) → (b i = true → EvD te σ2 F' (r i)) → Q σ2 H') → g x (wipe σ vs) H' Q) :
    EvD (tLc wi g t te vs) σ F (.list (((List.range items.length).filter b).map r)) := fun H0 e0 Q q => h H0 e0 _ fun J H1 e1 hj Dl hD => by
  have fn : ∀ n, ((List.range n).filter b).length ≤ n := fun n => by
    have z := List.length_filter_le b (List.range n)
    rw [List.length_range] at z
    exact z
  refine ⟨fun i m H' => m = items.length - i ∧ i ≤ items.length ∧ Ex H1 H' ∧ ∃ acc, H' Dl = some (.lst acc) ∧ DtAll (but (nw F H0 H') Dl) acc (((List.range i).filter b).map r), ⟨items.length, by simp, Nat.zero_le _, Ex.new hD, [], upd_same, .nil⟩, ?_⟩
  rintro i m H' ⟨rfl, hi, eH, acc, hacc, ha⟩
  have hG : Ex (nw F H0 H1) H' := (nw_ex (e0.trans e1)).trans eH
  have hDF : ∀ o, nw F H0 H1 Dl = some o → False := fun o z => by
    have := nw_ex (e0.trans e1) Dl o z
    rw [hD] at this
    cases this
  have hDn : H0 Dl = none := exdm e1 Dl hD
  by_cases hlt : i < items.length
  · refine .inr ⟨hj.go i H' hG hlt, fun H2 => Ex H1 H2 ∧ ∃ acc, H2 Dl = some (.lst acc) ∧ DtAll (but (nw F H0 H2) Dl) acc (((List.range (i + 1)).filter b).map r), fun H2 ⟨e2, p2⟩ => ⟨items.length - (i + 1), by omega, rfl, hlt, e2, p2⟩, fun x H2 y => ?_⟩
    obtain ⟨e2, hx⟩ := hj.yld i H' x H2 hG hlt y
    have hd := hx items[i] (List.getElem?_eq_getElem hlt)
    -- what is known: F, what is new since H0, but the list itself
    have kF : Ex F (but (nw F H0 H2) Dl) := fun a o z => by
      have za : a ≠ Dl := fun q => hDF o (by rw [← q]; exact ex_nw e0 a o z)
      rw [but_ne za]
      exact ex_nw e0 a o z
    have kH : Ex (but (nw F H0 H2) Dl) H2 := fun a o z => by
      by_cases za : a = Dl
      · rw [za, but_same] at z; cases z
      · rw [but_ne za] at z; exact nw_ex (((e0.trans e1).trans eH).trans e2) a o z
    have hx' : Dt (but (nw F H0 H2) Dl) x items[i] := hd.ex fun a o z => by
      cases q : H' a with
      | none =>
        rw [nw_n q] at z
        have za : a ≠ Dl := fun w => by rw [w, hacc] at q; cases q
        rw [but_ne za, nw_n (exdm (e1.trans eH) a q)]
        exact z
      | some u =>
        rw [nw_s q] at z
        have za : a ≠ Dl := fun w => hDF o (by rw [← w]; exact z)
        rw [but_ne za]
        exact nw_r (exexn (eH.trans e2)) a o z
    refine hs i items[i] x _ H2 (List.getElem?_eq_getElem hlt) kF kH hx' _ fun σ2 hw ht he => ⟨hw, ht H2 kH _ fun H3 e3 => ?_⟩
    have haa : DtAll (but (nw F H0 H2) Dl) acc (((List.range i).filter b).map r) := ha.ex fun a o z => by
      by_cases za : a = Dl
      · rw [za, but_same] at z; cases z
      · rw [but_ne za] at z ⊢; exact nw_r (exexn e2) a o z
    have toH : ∀ H4, Ex H2 H4 → ∀ u, Ex (but (nw F H0 H2) Dl) (but (nw F H0 (upd H4 Dl u)) Dl) := fun H4 e4 u a o z => by
      by_cases za : a = Dl
      · rw [za, but_same] at z; cases z
      · rw [but_ne za] at z ⊢
        cases q : H0 a with
        | none => rw [nw_n q] at z ⊢; rw [upd_ne za]; exact e4 a o z
        | some w => rw [nw_s q] at z ⊢; exact z
    have el : ((List.range (i + 1)).filter b).map r = ((List.range i).filter b).map r ++ (if b i = true then [r i] else []) := by
      rw [List.range_succ, List.filter_append, List.map_append, List.filter_cons]
      by_cases z : b i = true
      · rw [if_pos z, if_pos z]; rfl
      · rw [if_neg z, if_neg z]; rfl
    cases hb : b i with
    | true =>
      show te σ2 H3 fun y H4 => ∃ acc, H4 Dl = some (.lst acc) ∧ acc.length < sizeLine ∧ _
      refine he hb H3 (kH.trans e3) _ fun v H4 e4 hv => ⟨acc, e4 _ _ (e3 _ _ (e2 _ _ hacc)), ?_, fun a o z => ?_, acc ++ [v], upd_same, ?_⟩
      · rw [ha.len, List.length_map]
        exact sz_lt (Nat.lt_of_le_of_lt (fn i) (by omega))
      · rw [upd_ne (fun w => by rw [w, hD] at z; cases z)]
        exact e4 a o (e3 a o (e2 a o (eH a o z)))
      · rw [el, if_pos hb]
        refine (haa.ex (toH H4 (e3.trans e4) _)).snoc (hv.ex fun a o z => ?_)
        cases q : H3 a with
        | none =>
          rw [nw_n q] at z
          have za : a ≠ Dl := fun w => by rw [w, e3 _ _ (e2 _ _ hacc)] at q; cases q
          have q0 : H0 a = none := exdm (((e1.trans eH).trans e2).trans e3) a q
          rw [but_ne za, nw_n q0, upd_ne za]
          exact z
        | some w =>
          rw [nw_s q] at z
          exact toH H4 (e3.trans e4) _ a o z
    | false =>
      show Ex H1 H3 ∧ _
      refine ⟨(eH.trans e2).trans e3, acc, e3 _ _ (e2 _ _ hacc), ?_⟩
      rw [el, hb, if_neg (by decide), List.append_nil]
      refine haa.ex fun a o z => ?_
      by_cases za : a = Dl
      · rw [za, but_same] at z; cases z
      · rw [but_ne za] at z ⊢; exact nw_r (exexn e3) a o z
  · have ei : i = items.length := by omega
    subst ei
    refine .inl ⟨hj.stop _ H' hG (Nat.le_refl _), q _ H' (e1.trans eH) (.lst ?_ (ha.ex fun a o z => ?_))⟩
    · rw [nw_n hDn]; exact hacc
    · by_cases za : a = Dl
      · rw [za, but_same] at z; cases z
      · rw [but_ne za] at z; exact z
end
end WB
/-! Errors of one's own with an __init__ that keeps one thing; several clauses «except X as e». -/
namespace WB
open PySem PySem.Spec PyProof.Rows L2 Evl

/-! ### an error class of one's own, looked at -/
def oexB (K : PySem.W.Frag) (C : Addr) : Bool := (match K.lookup C with
  | some ⟨.type "type", _, .cls cd, sl⟩ => (match cd.mro, sl.toList with
    | .ref C' :: bm, [_, _, _, _, some (.builtin n), _] => C' == C && (n == "ValueError.__new__" && (!cd.hasDel && (cd.hasDict && PySem.HandSPX.refsVE bm)))
    | _, _ => false)
  | _ => false) && (decide (PySem.W.findIn K (.ref C) "__setattr__" = some (some (.builtin "object.__setattr__"))) && (decide (PySem.W.subIn K (.ref C) (.type "BaseException") = some true) && (decide (PySem.W.typeIn K (.ref C) = some (.type "type")) && PySem.W.keepIn K (.ref C))))
theorem oexB_ok {K : PySem.W.Frag} {C : Addr} (hq : oexB K C = true) : OexC K C := by
  unfold oexB at hq
  simp only [Bool.and_eq_true, decide_eq_true_eq] at hq
  obtain ⟨q1, q2, q3, q4, q5⟩ := hq
  refine ⟨?_, q2, q3, q4, q5⟩
  split at q1
  · rename_i dd cd sl look
    split at q1
    · rename_i C' bm k0 k1 k2 k3 nn k5 em es
      simp only [Bool.and_eq_true, beq_iff_eq, Bool.not_eq_true'] at q1
      obtain ⟨e1, e2, ndel, hdic, tail⟩ := q1
      subst e1 e2
      obtain ⟨c1, c2, c3, c4, c5, c6, c7, c8, c9, c10, c11⟩ := cd
      dsimp only at em ndel hdic
      subst em ndel hdic
      have slots : sl = #[k0, k1, k2, k3, some (.builtin "ValueError.__new__"), k5] := by
        obtain ⟨l⟩ := sl
        simp only at es
        rw [es]
      subst slots
      exact ⟨c1, c5, c4, c2, bm, c7, c8, c9, c10, dd, k0, k1, k2, k3, k5, look, tail⟩
    · cases q1
  · cases q1
/-- the promise of an __init__ that keeps its one argument as f -/
def spIni (C : Addr) (f : Str) : Sp := fun vs H Q _ => ∃ (a : Addr) (v : V), vs = [.ref a, v] ∧ H a = some (exo a C none) ∧ ∀ dx, H dx = none → dx ≠ a → Q .non (upd (upd H dx (exd dx [(f, v)])) a (exo a C (some dx)))
/-- what the top has of an error class x at C, whose __init__ keeps its one argument as f -/
structure Er (P : Program) (w : World) (K : PySem.W.Frag) (mg : Str → Option Value) (base : Heap) (k : Nat) (x : Str) (C : Addr) (f : Str) : Prop where
  ox : OexC K C
  xf : XfC K C
  no : PySem.W.findIn K (.ref C) f = some none
  mgx : mg x = some (.ref C)
  ini : ∃ (fI : Addr) (fd : FuncData), PySem.W.findIn K (.ref C) "__init__" = some (some (.ref fI)) ∧ PySem.W.typeIn K (.ref fI) = some (.type "function") ∧ Binds K fd ["self", f] [] ∧
    FnOk P w K mg base (L2.CX P w) k fI fd ["self", f] (spIni C f)
section
variable {X : Cx} {C : Addr} {k j : Nat} {x f : Str} {e : Expr} {te : TE} {W : WX} {p pos pos2 : Pos}
/-- what raise X(v) asks: E, the way out -/
def RaiseOk (C : Addr) (f : Str) (E : XK) (v : V) (H1 : Hp) : Prop := ([v] : List V).length ≤ 1000 ∧ ∀ a, H1 a = none → spIni C f (.ref a :: ([v] ++ [])) (upd H1 a (exo a C none))
  (fun u H2 => u = .non ∧ ∃ (d : Addr) (fs : List (Str × V)), H2 a = some (exo a C (some d)) ∧ H2 d = some (exd d fs) ∧ H1 d = none ∧ E (.ref C) (some d) (upd (L2.del H2 a) d (.xd fs))) (fun _ _ _ => False)
theorem raise_ok {E : XK} {v : V} {H1 : Hp} (h : ∀ d, H1 d = none → E (.ref C) (some d) (upd H1 d (.xd [(f, v)]))) : RaiseOk C f E v H1 := by
  refine ⟨(by show 1 ≤ 1000; decide), fun a ha => ⟨a, v, rfl, upd_same, fun dx hdx ne => ⟨rfl, dx, [(f, v)], upd_same, ?_, ?_, ?_⟩⟩⟩
  · rw [upd_ne ne, upd_same]
  · rw [upd_ne ne] at hdx; exact hdx
  · rw [upd_ne ne] at hdx
    have eq : upd (L2.del (upd (upd (upd H1 a (exo a C none)) dx (exd dx [(f, v)])) a (exo a C (some dx))) a) dx (.xd [(f, v)]) = upd H1 dx (.xd [(f, v)]) := by
      funext b
      by_cases q : b = dx
      · rw [q, upd_same, upd_same]
      · rw [upd_ne q, upd_ne q]
        by_cases r : b = a
        · rw [r, del_same, ha]
        · rw [del_ne r, upd_ne r, upd_ne q, upd_ne r]
    rw [eq]
    exact h dx hdx
/-- raise X(e) -/
def tRaise1 (C : Addr) (f : Str) (W : WX) (te : TE) : TS := fun _ σ H => te σ H fun v H1 => RaiseOk C f (fun cls d H' => W cls d σ H') v H1
theorem ps_raise1 (T : Er X.prog X.w X.K X.mg X.base k x C f) (hr : Room j X.A) (hk : k + 1 ≤ j) (hc : X.calm = true) (tk : Takes X W) (hg : Gl X x) (he : PE X e te)
    (hdb : (x == ("__debug__" : Str)) = false := by decide) (hse : starEach [e] X.env = (false, eval e X.env) :: starEach [] X.env := by rfl) (hpl : (backTo pos (starEach [] X.env)).any (·.1) = false := by rfl) :
    PS X (.Raise (some (.Call (.Name x p) [e] [] pos)) none pos2) (tRaise1 C f W te) := by
  obtain ⟨fI, fd, ic, ti, hb, F⟩ := T.ini
  exact ps_raise (pos := pos2) hc tk (pmk_oex (x := x) (p := p) (pos := pos) T.ox ic ti F (hr.mono hk) hb .nil (fun _ _ _ _ _ _ _ h => by
    obtain ⟨_, _, _, _, _, _, _, _, _, _, _, _, n⟩ := h
    exact n.elim) hg T.mgx (pa_cons he pa_nil (hs := hse)) hdb hse hpl)
/-- the wish of a call that raises nothing -/
theorem pass_none {X : Cx} : Passes (L2.CX X.prog X.w) X (fun _ _ _ => False) := fun _ _ _ _ _ _ _ h => by
  obtain ⟨_, _, _, _, _, _, _, _, _, _, _, _, z⟩ := h
  exact z.elim
end
/-! ### several clauses, each «as» the same name -/
section
variable {X : Cx}
/-- what they wish, one after the other: slot i is the name's -/
def wAss (K : PySem.W.Frag) (i : Nat) (Wout : WX) (D : Ends) : List (Value × (Addr → Value → Option Addr → TS)) → WX
  | [] => Wout
  | (c, ts) :: more => fun cls d σ H => ∃ yes, PySem.W.exmOne K cls c = some yes ∧
      (yes = true → ∀ a, H a = none → ts a cls d { nx := fun τ G => D.nx (τ.set i none) G, rt := D.rt, bk := fun τ G => D.bk (τ.set i none) G, ct := fun τ G => D.ct (τ.set i none) G } (σ.set i (some (.ref a))) H) ∧
      (yes = false → wAss K i Wout D more cls d σ H)
/-- the clauses, each with its suite's reading -/
inductive AsOk (X : Cx) (n : Str) : List ExceptHandler → List (Value × (Addr → Value → Option Addr → TS)) → Prop
  | nil : AsOk X n [] []
  | cons {x : Str} {c : Value} {ts : Addr → Value → Option Addr → TS} {first : Stmt} {rest : List Stmt} {np hp : Pos} {hds : List ExceptHandler} {l : List (Value × (Addr → Value → Option Addr → TS))} (nm : Names X x c)
      (su : ∀ (a : Addr) (oe : Obj) (cls : Value) (d : Option Addr) (pn : List (Addr × Obj)), Zc cls d oe → (∃ vs, oe.data = .fields vs) → PSs (X.suite a ((a, oe) :: pn)) (first :: rest) (ts a cls d)) (more : AsOk X n hds l) :
      AsOk X n (.ExceptHandler (some (.Name x np)) (some n) (first :: rest) hp :: hds) ((c, ts) :: l)
variable {n : Str} {i : Nat} {body : List Stmt} {h1 : ExceptHandler} {hds : List ExceptHandler} {l : List (Value × (Addr → Value → Option Addr → TS))} {pos : Pos} {tb : WX → TS} {Wout : WX}
theorem ps_try_ass (stk : X.stack = X.env :: X.outer) (frm : X.env.frame = some X.env.locals) (nodup : X.N.Nodup) (slot : X.N[i]? = some n) (loc : X.env.kindOf n = some .local) (tk : Takes X Wout)
    (bod : ∀ (W : WX) (pn : List (Addr × Obj)) (xe : Value → Shared → Prop), Takes (X.tr pn xe) W → PassesOwn (model X.prog X.w) X.A X.env xe → PSs (X.tr pn xe) body (tb W))
    (hh : AsOk X n (h1 :: hds) l) : PS X (.Try body (h1 :: hds) [] [] pos) (fun D σ H => tb (wAss X.K i Wout D l) D σ H) := by
  refine ⟨fun pins s0 σ0 G0 D I0 hw => ?_⟩
  have okX := I0.ok
  have afr : X.A.frames = some (X.env :: X.outer) := by rw [okX.frames, stk]
  have isloc : Loc X.env.scope n := .inl loc
  refine wpAny_Try_except ?_
  refine wpAny_mono ((bod (wAss X.K i Wout D l) (X.pn ++ pins) (fun er t1 => wpAny (model X.prog X.w) X.A (noteFrame er X.env) (fun _ t2 => wpAny (model X.prog X.w) X.A (setFlight er none) (fun _ t3 =>
    wpAny (model X.prog X.w) X.A (handleBy er X.env (h1 :: hds)) (SP X pins D) X.xe t3) X.xe t2) X.xe t1) (fun er t0 caught => ?_) PassesOwn.looking).run [] s0 σ0 G0 D (I0.toTry _) hw) (fun fl t1 fin => ?_) (fun _ _ z => z)
  · obtain ⟨a, B, sI, _, σ', H', cls, d, rfl, Jt, nb, up, sky, na, os, ag, wish⟩ := caught
    have J := Jt.ofTry okX
    rw [stk] at sky
    show wpAny (model X.prog X.w) X.A (noteFrame (.ref a) X.env) _ _ _
    refine Sky.land Zc.steady afr frm sky fun g3 fly3 up3 => ?_
    have J3 : Inv X pins σ' H' { t0 with heap := g3 } := J.landed nb fly3.1 (up.trans up3) os ag
    obtain ⟨oe3, vs3, at3, z3, dat3⟩ := fly3.there
    have noframe : a ∉ frs (X.env :: X.outer) := fun mem => by
      obtain ⟨_, o', at', nf⟩ := fly3.2.2.1.mem mem
      rw [at3] at at'
      cases at'
      exact nf _ dat3
    have neL : a ≠ X.env.locals := fun z => noframe (List.mem_filterMap.mpr ⟨X.env, List.mem_cons_self, by rw [frm, z]⟩)
    have neF : a ∉ X.fs := fun mem => by
      obtain ⟨v, mv, q⟩ := List.mem_filterMap.mp mem
      exact noframe (List.mem_filterMap.mpr ⟨v, List.mem_cons_of_mem _ mv, q⟩)
    have S3 := J3.suite at3 dat3 na neL neF
    have each : ∀ {hs : List ExceptHandler} {ls : List (Value × (Addr → Value → Option Addr → TS))}, AsOk X n hs ls → wAss X.K i Wout D ls cls d σ' H' →
        wpAny (model X.prog X.w) X.A (handleBy (.ref a) X.env hs) (SP X pins D) X.xe { t0 with heap := g3 } := by
      intro hs ls ok
      induction ok with
      | nil =>
        intro out
        refine wpAny_handleBy_nil ?_
        obtain ⟨_, _, _, ob, fv, T, oT, tv, atA, zA, dA, one, _⟩ := id fly3
        unfold PySem.passOn
        refine wpAny_bind (wpAny_field atA dA one ?_)
        rw [if_neg (by simp : ¬ ((Value.ref T == Value.none) = true))]
        have thrown : wpAny (model X.prog X.w) X.A (setFlight (.ref a) X.env.frame) (fun _ t4 => wpAny (model X.prog X.w) X.A (throw (.ref a) : Sem Flow) (SP X pins D) X.xe t4) X.xe { t0 with heap := g3 } := by
          rw [frm]
          refine HandSPX.setFlight_upZ fly3 fun g4 held4 up4 => wpAny_throw (tk _ _ ?_)
          exact ⟨a, B, sI, pins, σ', H', cls, d, rfl, J, nb, (up.trans up3).trans up4, .inr (.inr (by rw [stk]; exact held4)), na, os, ag, out⟩
        first
          | exact wpAny_bind (wpAny_pure (wpAny_bind thrown))
          | exact wpAny_bind thrown
      | @cons x c ts first rest np hp hds2 l2 nm su more ih =>
        intro ⟨yes, test1, onYes, onNo⟩
        refine wpAny_handleBy_cons (codeAny_handlers_test ?_) (by intro q; cases q)
        have looksT : PySem.W.Looks (model X.prog X.w) g3 (typeOf (.ref a)) cls := fun _ _ _ t kp q => wpAny_typeOf_ref (kp _ _ at3) (by rw [z3.1]; exact q)
        have looksM := PySem.W.exm_one (M := model X.prog X.w) J3.kIn looksT test1
        have named : ∀ {Q : Value → Shared → Prop} {E : Value → Shared → Prop}, Q c { t0 with heap := g3 } → wpAny (model X.prog X.w) (X.A.mark (some (.ref a))) (eval (.Name x np) X.env) Q E { t0 with heap := g3 } := fun q => by
          obtain ⟨g, dbg, own | ⟨free, val, nn⟩⟩ := nm
          · exact ld_glob (X := X.suite a ((a, oe3) :: (X.pn ++ pins))) S3 g own q dbg
          · exact ld_blt (X := X.suite a ((a, oe3) :: (X.pn ++ pins))) S3 g free val q nn dbg
        refine named (looksM.here ?_)
        cases yes with
        | false =>
          show wpAny _ X.A (handleBy (.ref a) X.env hds2) _ _ _
          exact ih (onNo rfl)
        | true =>
          refine codeAny_handlers_suite_as ?_
          refine HandSPX.lands_againZ fly3 fun g4 fly4 up4 => ?_
          have J4 : Inv X pins σ' H' { t0 with heap := g4 } := J.landed nb fly4.1 ((up.trans up3).trans up4) os ag
          obtain ⟨oe4, vs4, at4, z4, dat4⟩ := fly4.there
          have S4 := J4.suite at4 dat4 na neL neF
          refine store_ok (X := X.suite a ((a, oe4) :: (X.pn ++ pins))) (v := .ref a) S4 nodup slot isloc rfl (fun t5 S5 => ?_) (.inr loc)
          refine wpAny_mono ((su a oe4 cls d (X.pn ++ pins) z4 ⟨_, dat4⟩).run [] t5 _ H' _ S5 (onYes rfl a na)) (fun fl t6 fin => ?_) (fun _ _ z => False.elim z)
          have gone : ∀ {σ6 : L2.St} {H6 : Hp} {Q : Shared → Prop}, Inv (X.suite a ((a, oe4) :: (X.pn ++ pins))) [] σ6 H6 t6 → (∀ t7, Inv X pins (σ6.set i none) H6 t7 → Q t7) →
              wpAny (model X.prog X.w) X.A (do bindName X.env n .none; unbindBehindTheSuite X.env n hp) (fun _ t7 => Q t7) X.xe t6 := fun S6 q => gone_ok (S6.unsuite okX) nodup slot loc q
          cases fl with
          | next =>
            obtain ⟨_, _, S6, q⟩ := fin
            exact gone S6 fun t7 J7 => ⟨_, _, J7, q⟩
          | brk =>
            obtain ⟨_, _, S6, q⟩ := fin
            exact gone S6 fun t7 J7 => ⟨_, _, J7, q⟩
          | cont =>
            obtain ⟨_, _, S6, q⟩ := fin
            exact gone S6 fun t7 J7 => ⟨_, _, J7, q⟩
          | ret u =>
            obtain ⟨_, _, _, S6, r, q⟩ := fin
            exact gone S6 fun t7 J7 => ⟨_, _, _, J7, r, q⟩
    exact each hh wish
  · cases fl with
    | next =>
      obtain ⟨_, _, J, q⟩ := fin
      exact wpAny_execs_nil ⟨_, _, J.ofTry okX, q⟩
    | brk =>
      obtain ⟨_, _, J, q⟩ := fin
      exact ⟨_, _, J.ofTry okX, q⟩
    | cont =>
      obtain ⟨_, _, J, q⟩ := fin
      exact ⟨_, _, J.ofTry okX, q⟩
    | ret u =>
      obtain ⟨_, _, _, J, r, q⟩ := fin
      exact ⟨_, _, _, J.ofTry okX, r, q⟩
end
end WB
/-! ### the looks at the head -/
namespace WB
open PySem PySem.Spec PyProof.Rows L2 Evl
def errB (x f : Str) (K : PySem.W.Frag) : Bool := oexB K (He.ga K x) && (xfB K (He.ga K x) && (decide (PySem.W.findIn K (.ref (He.ga K x)) f = some none) &&
  (decide (PySem.W.findIn K (.ref (He.ga K x)) "__init__" = some (some (.ref (He.ma K (He.ga K x) "__init__")))) && decide (PySem.W.typeIn K (.ref (He.ma K (He.ga K x) "__init__")) = some (.type "function")))))
def exmB (x y : Str) (b : Bool) (K : PySem.W.Frag) : Bool := decide (PySem.W.exmOne K (.ref (He.ga K x)) (.ref (He.ga K y)) = some b)
def kitOB (x y : Str) (b : Bool) (K : PySem.W.Frag) : Bool := decide (PySem.W.kitOne K (.ref (He.ga K x)) (.ref (He.ga K y)) = some b)
def kitTO (t : String) (y : Str) (K : PySem.W.Frag) : Bool := decide (PySem.W.kitOne K (.type t) (.ref (He.ga K y)) = some false)
def kitOT (y : Str) (t : String) (K : PySem.W.Frag) : Bool := decide (PySem.W.kitOne K (.ref (He.ga K y)) (.type t) = some false)
def insB (x : Str) (K : PySem.W.Frag) : Bool := decide (PySem.W.findIn K (.ref (He.ga K x)) "__class__" = some (some (.builtin "object.__class__"))) &&
  (decide (PySem.W.specialIn K (.builtin "object.__class__") "__get__" = some (some (.builtin "getset_descriptor.__get__"))) && (decide (PySem.W.takesIn K (.builtin "object.__class__") = some true) && decide (PySem.W.mroIn K (He.ga K x) (.type "object") = some true)))
section
variable {P : Program} {w : World} {K : PySem.W.Frag} {mg : Str → Option Value} {base : Heap} {x f : Str}
theorem insB_ok {H : Hp} {a dx : Addr} {fs : List (Str × V)} (c : Cls K (He.ga K x)) (hq : insB x K = true) (h : H a = some (.ins (He.ga K x) dx fs)) : TyX K H (.ref a) (.ref (He.ga K x)) := by
  unfold insB at hq
  simp only [Bool.and_eq_true, decide_eq_true_eq] at hq
  obtain ⟨q1, q2, q3, q4⟩ := hq
  exact .base (.ins h c q1 q2 q3 q4)
theorem errB_ox (hq : errB x f K = true) : OexC K (He.ga K x) := by
  unfold errB at hq
  simp only [Bool.and_eq_true, decide_eq_true_eq] at hq
  exact oexB_ok hq.1
theorem errB_no (hq : errB x f K = true) : PySem.W.findIn K (.ref (He.ga K x)) f = some none := by
  unfold errB at hq
  simp only [Bool.and_eq_true, decide_eq_true_eq] at hq
  exact hq.2.2.1
theorem errB_ok (hq : errB x f K = true) (hm : mg x = some (.ref (He.ga K x)))
    (h : ∃ fd : FuncData, L2.Binds K fd ["self", f] [] ∧ FnOk P w K mg base (L2.CX P w) 1 (He.ma K (He.ga K x) "__init__") fd ["self", f] (spIni (He.ga K x) f)) : Er P w K mg base 1 x (He.ga K x) f := by
  have z := hq
  unfold errB at z
  simp only [Bool.and_eq_true, decide_eq_true_eq] at z
  obtain ⟨q1, q2, q3, q4, q5⟩ := z
  obtain ⟨fd, b, F⟩ := h
  exact ⟨oexB_ok q1, xfB_ok q2, q3, hm, _, fd, q4, q5, b, F⟩
theorem ini_len (C : Addr) (f : Str) (vs : List V) (H : Hp) (Q : VK) (E : XK) (h : spIni C f vs H Q E) : vs.length = (["self", f] : List Str).length := by
  obtain ⟨a, v, rfl, _⟩ := h
  rfl
theorem ini_body {C : Addr} {vs : List V} {H : Hp} {Q : VK} {E : XK} {D : Ends} (T : OexC K C) (no : PySem.W.findIn K (.ref C) f = some none) (h : spIni C f vs H Q E) (hD : D.nx = fun _ H' => Q .non H') : tOst K f (tVar 0) (tVar 1) D (start ["self", f] vs) H := by
  obtain ⟨a, v, rfl, ha, q⟩ := h
  refine ⟨v, rfl, .ref a, rfl, a, C, rfl, T, no, .inl ⟨ha, fun dx hd ne => ?_⟩⟩
  rw [hD]
  exact q dx hd ne
/-- calls within a try -/
theorem pe_clS {X : Cx} {k j : Nat} {x : Str} {ps : List Str} {sp : Sp} {E : L2.St → XK} {p pos : Pos} {e : Expr} {es : List Expr} {t : TA} (c : Cl X.prog X.w X.K X.mg X.base k x ps sp) (hr : Room j X.A) (hk : k ≤ j) (hx : ∀ σ, PassesAt (L2.CX X.prog X.w) X σ (E σ)) (hg : Gl X x) (ha : PA X (e :: es) t)
    (hdb : (x == ("__debug__" : Str)) = false := by decide) (he : starEach (e :: es) X.env = (false, eval e X.env) :: starEach es X.env := by rfl) (hpl : (backTo pos (starEach es X.env)).any (·.1) = false := by rfl) :
    PE X (.Call (.Name x p) (e :: es) [] pos) (tCallS sp E t) := by
  obtain ⟨f, fd, F, hm, hkp, hb⟩ := c
  exact pe_callS F (hr.mono hk) hg hm hkp hb hx ha hdb he hpl
/-- a def's promise by its body -/
theorem mk_cl {N ps : List Str} {k : Nat} {sp : Sp} {x qual : Str} {params : Arguments} {body : List Stmt} {scope : Scope} {f : Addr} (F : ∃ fd, FunD K x qual params body scope [] [] f fd) (hm : mg x = some (.ref f)) (S : FnScope N ps scope)
    (hb : ∀ (kV doc pm : Value) (an : Option Addr) (cdv ct : Value) (us : List Value), us.length = ps.length → bindArgs (PySem.W.fnOf x qual params body scope .none kV doc pm an cdv ct) ⟨us, []⟩ = pure (ps.zip us))
    (len : ∀ vs H Q E, sp vs H Q E → vs.length = ps.length)
    (hbody : ∀ (cdv : Value) (A : Around) (outer : List Env) (s : Shared) (H : Hp) (vs : List V) (Q : VK) (E : XK), Room k (A.deeper (envOfC qual scope s.heap.objs.size f cdv)) → sp vs H Q E →
      ∃ t, PSs (cxOf (L2.CX P w) P w K mg base N qual scope f cdv A outer s H E) body t ∧ t { nx := fun _ H' => Q .non H', rt := Q } (start N vs) H) : Cl P w K mg base (k + 1) x ps sp := by
  obtain ⟨fd, F⟩ := F
  exact ⟨f, fd, F.ok S len hbody, hm, F.kp, F.bindsN hb⟩
end
end WB
/-! ### a call's end; small readings -/
namespace WB
open PySem PySem.Spec PyProof.Rows L2 Evl
section
variable {M : Addr → Prop} {K : PySem.W.Frag} {F0 H0 F H : Hp} {σ : L2.St} {ta tb te tx : TE} {t u : TT} {d d1 d2 d3 r : PyData} {v : V} {D : Ends} {tu tw : TS} {g : TG} {Q : VK}
theorem k_seq (h : tu { D with nx := tw D } σ H) : tSeq tu tw D σ H := h
theorem k_next (h : D.nx σ H) : tNext D σ H := h
theorem Kn.hh (kn : Kn M0 F0 H0 F H) : Ex H0 H := fun a o h => kn.h a o (fun z => z) h
theorem k_done (hQ : ∀ v H', Ex H0 H' → Dt (nw F0 H0 H') v r → Q v H') (kn : Kn M0 F0 H0 F H) (hv : Dt F v r) : Q v H := hQ v H kn.hh (hv.ex kn.nw)
theorem k_fin (hQ : ∀ v H', Ex H0 H' → Dt (nw F0 H0 H') v r → Q v H') (kn : Kn M0 F0 H0 F H) (h : EvD te σ F r) (hD : D.rt = Q := by rfl) : tRet te D σ H := k_ret kn h fun v F1 H1 s hv => by
  rw [hD]
  exact k_done hQ s.kn hv
/-- if .. : return ..; what follows -/
theorem k_ifF {b : Bool} (kn : Kn M F0 H0 F H) (h : EvT t σ F b) (hb : b = false) (h2 : ∀ F1 H1, StpE M F0 H0 F H F1 H1 → tw D σ H1) : tIfS t tu tw D σ H := by
  subst hb
  exact k_if kn h (fun z => nomatch z) fun _ => h2
theorem k_ifT {b : Bool} (kn : Kn M F0 H0 F H) (h : EvT t σ F b) (hb : b = true) (h1 : ∀ F1 H1, StpE M F0 H0 F H F1 H1 → tu D σ H1) : tIfS t tu tw D σ H := by
  subst hb
  exact k_if kn h (fun _ => h1) (fun z => nomatch z)
/-! a statement, then the rest -/
section
variable {rest : TS}
theorem q_asg {i : Nat} (kn : Kn M F0 H0 F H) (h : EvD te σ F d) (k : ∀ v F1 H1, StpE M F0 H0 F H F1 H1 → Dt F1 v d → rest D (σ.set i (some v)) H1) : tSeq (tAsg te (gName i)) rest D σ H := k_asg (D := { D with nx := rest D }) kn h k
theorem q_drop (kn : Kn M F0 H0 F H) (h : EvD te σ F d) (k : ∀ F1 H1, StpE M F0 H0 F H F1 H1 → rest D σ H1) : tSeq (tDrop te) rest D σ H := k_drop (D := { D with nx := rest D }) kn h k
theorem q_unp2 {i j : Nat} (kn : Kn M F0 H0 F H) (h : EvD te σ F (.tuple [d1, d2])) (k : ∀ x y F1 H1, StpE M F0 H0 F H F1 H1 → Dt F1 x d1 → Dt F1 y d2 → rest D ((σ.set i (some x)).set j (some y)) H1) : tSeq (tAsg te (gTup K 2 (gCons (gName i) (gCons (gName j) gNil)))) rest D σ H := k_unp2 (D := { D with nx := rest D }) kn h k
theorem q_unp3 {i j l : Nat} (kn : Kn M F0 H0 F H) (h : EvD te σ F (.tuple [d1, d2, d3])) (k : ∀ x y z F1 H1, StpE M F0 H0 F H F1 H1 → Dt F1 x d1 → Dt F1 y d2 → Dt F1 z d3 → rest D (((σ.set i (some x)).set j (some y)).set l (some z)) H1) : tSeq (tAsg te (gTup K 3 (gCons (gName i) (gCons (gName j) (gCons (gName l) gNil))))) rest D σ H := k_unp3 (D := { D with nx := rest D }) kn h k
theorem q_par {i j : Nat} (kn : Kn M F0 H0 F H) (ha : EvD ta σ F d1) (hb : EvD tb σ F d2) (k : ∀ x y F1 H1, StpE M F0 H0 F H F1 H1 → Dt F1 x d1 → Dt F1 y d2 → rest D ((σ.set i (some x)).set j (some y)) H1) : tSeq (tPar i j (tCons ta (tCons tb tNil))) rest D σ H := k_par (D := { D with nx := rest D }) kn ha hb k
theorem q_ifF {b : Bool} (kn : Kn M F0 H0 F H) (h : EvT t σ F b) (hb : b = false) (k : ∀ F1 H1, StpE M F0 H0 F H F1 H1 → rest D σ H1) : tSeq (tIfS t tu tNext) rest D σ H := k_ifF (D := { D with nx := rest D }) kn h hb k
theorem q_ifT {b : Bool} (kn : Kn M F0 H0 F H) (h : EvT t σ F b) (hb : b = true) (k : ∀ F1 H1, StpE M F0 H0 F H F1 H1 → tu { D with nx := rest D } σ H1) : tSeq (tIfS t tu tw) rest D σ H := k_ifT (D := { D with nx := rest D }) kn h hb k
theorem q_if {b : Bool} (kn : Kn M F0 H0 F H) (h : EvT t σ F b) (h1 : b = true → ∀ F1 H1, StpE M F0 H0 F H F1 H1 → tu { D with nx := rest D } σ H1) (h2 : b = false → ∀ F1 H1, StpE M F0 H0 F H F1 H1 → rest D σ H1) : tSeq (tIfS t tu tNext) rest D σ H := k_if (D := { D with nx := rest D }) kn h h1 h2
theorem q_ife {b : Bool} (kn : Kn M F0 H0 F H) (h : EvT t σ F b) (h1 : b = true → ∀ F1 H1, StpE M F0 H0 F H F1 H1 → tu { D with nx := rest D } σ H1) (h2 : b = false → ∀ F1 H1, StpE M F0 H0 F H F1 H1 → tw { D with nx := rest D } σ H1) : tSeq (tIfS t tu tw) rest D σ H := k_if (D := { D with nx := rest D }) kn h h1 h2
theorem q_aug {i : Nat} {f : Int → Int → Int} {a b : Int} (kn : Kn M F0 H0 F H) (hx : σ[i]? = some (some (.int a))) (h : EvD te σ F (.int b)) (k : ∀ F1 H1, StpE M F0 H0 F H F1 H1 → rest D (σ.set i (some (.int (f a b)))) H1) : tSeq (tAug i te (ipI f)) rest D σ H := k_aug (D := { D with nx := rest D }) kn hx h k
theorem q_new {i : Nat} {ta : TA} {ds : List PyData} (kn : Kn M F0 H0 F H) (h : EvDA ta σ F ds) (hz : ds.length ≤ 100000) (k : ∀ l xs F1 H1, StpE M F0 H0 F H F1 H1 → F1 l = none → H0 l = none → H1 l = some (.lst xs) → DtAll F1 xs ds → rest D (σ.set i (some (.ref l))) H1) : tSeq (tAsg (tLst ta) (gName i)) rest D σ H := k_new (D := { D with nx := rest D }) kn h hz k
theorem q_app {l : Addr} {xs : List V} (kn : Kn M F0 H0 F H) (hl : H l = some (.lst xs)) (hF : F l = none) (h0 : H0 l = none) (ha : Ev ta σ H (.ref l)) (h : EvD te σ F d) (hz : xs.length < 100000)
    (k : ∀ v F1 H1, Kn M F0 H0 F1 H1 → Ex F F1 → F1 l = none → Dt F1 v d → H1 l = some (.lst (xs ++ [v])) → (∀ a o, a ≠ l → H a = some o → H1 a = some o) → (∀ a o, H a = some o → F a = none → F1 a = none) → rest D σ H1) :
    tSeq (tDrop (tBM K "list" rAppend ta (tCons te tNil))) rest D σ H := k_app (D := { D with nx := rest D }) kn hl hF h0 ha h hz k
theorem q_for {wi : TI} {items : List PyData} (kn : Kn M F0 H0 F H) (h : WkD wi σ F items) (I : Nat → L2.St → Hp → Hp → Prop)
    (h0 : ∀ F1 H1, StpE M F0 H0 F H F1 H1 → I 0 σ F1 H1)
    (hI : ∀ i σ' F' H' H2, I i σ' F' H' → Kn M F0 H0 F' H' → Ex H' H2 → I i σ' (nw F' H' H2) H2)
    (hs : ∀ i d x σ' F' H', items[i]? = some d → Kn M F0 H0 F' H' → Ex F F' → Dt F' x d → I i σ' F' H' →
      ∀ N : L2.St → Hp → Prop, (∀ σ2 F2 H2, Kn M F0 H0 F2 H2 → Ex F' F2 → I (i + 1) σ2 F2 H2 → N σ2 H2) → g x σ' H' fun σ2 H2 => tu { D with nx := N, ct := N, bk := rest D } σ2 H2)
    (hd : ∀ σ' F' H', Kn M F0 H0 F' H' → Ex F F' → I items.length σ' F' H' → rest D σ' H') : tSeq (tFor wi g tu) rest D σ H := k_for (D := { D with nx := rest D }) kn h I h0 hI hs hd
end
/-- a built-in method of a text, no arguments -/
theorem d_str0 {f : Str → V} {z : Str} (h : EvD te σ F (.str z)) (hs : sc d = some (f z)) : EvD (tBM0 K "str" (fun x xs H Q => ∃ a, x = .str a ∧ xs = [] ∧ True ∧ Q (f a) H) te) σ F d := fun H1 e Q q => h H1 e _ fun x H2 e2 hx => by
  cases hx.str_
  exact ⟨rfl, z, rfl, rfl, trivial, q _ H2 e2 (sc_dt hs)⟩
/-- x in (a, b, ..) of scalars: a tuple of the top -/
theorem d_inK {a : Addr} {xs : List V} {x : V} (h : EvD te σ F d) (hx : sc d = some x) (hf : flatV x = true) (ha : xs.all flatV = true) (ht : ∀ H1, SqT K H1 a xs) : EvD (tOp (rIn K false) te (tC (.ref a))) σ F (.bool (inV x xs)) := fun H1 e Q q =>
  h H1 e _ fun y H2 e2 hy => by
    cases dt_sc hy hx
    exact ⟨a, xs, rfl, .inr (ht H2), hf, ha, q _ H2 e2 (.bl _)⟩
theorem kb_ss : kitB "str" "str" = some true := by decide +kernel
theorem kb_ii : kitB "int" "int" = some true := by decide +kernel
theorem kb_ib : kitB "int" "bool" = some false := by decide +kernel
theorem d_ss {i : Str} (h : EvD te σ F (.str i)) : EvD (tCB (rIsi K) (tCons te (tCons (tC (.ty "str")) tNil))) σ F (.bool true) := d_isi h (ty_of rfl) (kit_ty kb_ss)
theorem d_ii {i : Int} (h : EvD te σ F (.int i)) : EvD (tCB (rIsi K) (tCons te (tCons (tC (.ty "int")) tNil))) σ F (.bool true) := d_isi h (ty_of rfl) (kit_ty kb_ii)
theorem d_ib {i : Int} (h : EvD te σ F (.int i)) : EvD (tCB (rIsi K) (tCons te (tCons (tC (.ty "bool")) tNil))) σ F (.bool false) := d_isi h (ty_of rfl) (kit_ty kb_ib)
end
end WB
/-! What a reading makes, told by any word about a value and a heap; objects; row[a:b] = e. -/
namespace WB
open PySem PySem.Spec PyProof.Rows L2 Evl

/-- a word that stays -/
def Mo (T : Hp → V → Prop) : Prop := ∀ H H' v, Ex H H' → T H v → T H' v
def MoA (T : Hp → List V → Prop) : Prop := ∀ H H' v, Ex H H' → T H v → T H' v
def EvP (te : TE) (σ : L2.St) (F : Hp) (T : Hp → V → Prop) : Prop := ∀ H1, Ex F H1 → ∀ Q : VK, (∀ v H2, Ex H1 H2 → T (nw F H1 H2) v → Q v H2) → te σ H1 Q
def EvPA (ta : TA) (σ : L2.St) (F : Hp) (T : Hp → List V → Prop) : Prop := ∀ H1, Ex F H1 → ∀ Q : List V → Hp → Prop, (∀ v H2, Ex H1 H2 → T (nw F H1 H2) v → Q v H2) → ta σ H1 Q
abbrev DT (d : PyData) : Hp → V → Prop := fun H v => Dt H v d
theorem mo_dt (d : PyData) : Mo (DT d) := fun _ _ _ e h => h.ex e
section
variable {M : Addr → Prop} {K : PySem.W.Frag} {F0 H0 F H : Hp} {σ : L2.St} {ta tb te tx : TE} {t u : TT} {d d1 d2 d3 r : PyData} {v : V} {D : Ends} {tu tw rest : TS} {g : TG} {Q : VK} {T T1 T2 : Hp → V → Prop}
theorem EvD.toP (h : EvD te σ F d) : EvP te σ F (DT d) := h
theorem EvP.toD (h : EvP te σ F (DT d)) : EvD te σ F d := h
theorem EvP.imp (h : EvP te σ F T) (q : ∀ H v, T H v → T1 H v) : EvP te σ F T1 := fun H1 e Q k => h H1 e Q fun v H2 e2 hv => k v H2 e2 (q _ v hv)
theorem p_var {i : Nat} (h : σ[i]? = some (some v)) (hv : T F v) (mo : Mo T) : EvP (tVar i) σ F T := fun H1 e _ q => ⟨v, h, q v H1 (Ex.refl H1) (mo _ _ _ (ex_nw e) hv)⟩
theorem pa_nil' : EvPA tNil σ F (fun _ vs => vs = []) := fun H1 _ _ q => q [] H1 (Ex.refl H1) rfl
theorem pa_cons' {tr : TA} {TA' : Hp → List V → Prop} (h : EvP ta σ F T) (mo : Mo T) (hr : EvPA tr σ F TA') (moa : MoA TA') : EvPA (tCons ta tr) σ F (fun H vs => ∃ v r, vs = v :: r ∧ T H v ∧ TA' H r) := fun H1 e _ q =>
  h H1 e _ fun x H2 e2 hx => hr H2 (e.trans e2) _ fun xs H3 e3 hxs => q (x :: xs) H3 (e2.trans e3) ⟨x, xs, rfl, mo _ _ _ (nw_r (exexn e3)) hx, moa _ _ _ (nw_l e (exdm e2)) hxs⟩
/-- a promise: args what the arguments are, res what comes back -/
def SpP {α : Type} (args : α → Hp → List V → Prop) (res : α → Hp → V → Prop) : Sp := fun vs H Q _ => ∃ F x, Ex F H ∧ args x F vs ∧ ∀ v H', Ex H H' → res x (nw F H H') v → Q v H'
theorem nw_nw {H1 H2 H3 : Hp} (e2 : Ex H1 H2) (e3 : Ex H2 H3) : Ex (nw (nw F H1 H2) H2 H3) (nw F H1 H3) := fun a o ha => by
  cases z : H2 a with
  | none =>
    rw [nw_n z] at ha
    rw [nw_n (exdm e2 a z)]
    exact ha
  | some u =>
    rw [nw_s z] at ha
    exact nw_r (exexn e3) a o ha
theorem p_call {α : Type} {args : α → Hp → List V → Prop} {res : α → Hp → V → Prop} {E : XK} {ta : TA} (x : α) (h : EvPA ta σ F (args x)) (mo : Mo (res x)) : EvP (tCall (SpP args res) [] E ta) σ F (res x) := fun H1 e Q q =>
  h H1 e _ fun xs H2 e2 hx => by
    show SpP args res (xs ++ []) H2 Q E
    rw [List.append_nil]
    exact ⟨nw F H1 H2, x, nw_ex (e.trans e2), hx, fun v H3 e3 hv => q v H3 (e2.trans e3) (mo _ _ _ (nw_nw e2 e3) hv)⟩
/-- o.m(), o an instance of the class at C -/
theorem p_meth0 {α : Type} {args : α → Hp → List V → Prop} {res : α → Hp → V → Prop} {E : XK} {C : Addr} {m : Str} (x : α) (h : EvP ta σ F T) (hT : ∀ G v, T G v → ∃ a dx fs, v = .ref a ∧ G a = some (.ins C dx fs) ∧ fs.lookup m = none ∧ args x G [v]) (mo : Mo (res x)) :
    EvP (tMeth C m (SpP args res) [] E ta tNil) σ F (res x) := fun H1 e Q q => h H1 e _ fun v H2 e2 hv => by
  obtain ⟨a, dx, fs, rfl, h1, h2, h3⟩ := hT _ v hv
  exact ⟨a, dx, fs, rfl, nw_ex (e.trans e2) _ _ h1, h2, nw F H1 H2, x, nw_ex (e.trans e2), h3, fun v H3 e3 hv => q v H3 (e2.trans e3) (mo _ _ _ (nw_nw e2 e3) hv)⟩
/-- o.f -/
theorem p_fld {C : Addr} {f : Str} (c : Cls K C) (n : NoAttr K C f) (h : EvP ta σ F T) (hT : ∀ G v, T G v → ∃ a dx fs y, v = .ref a ∧ G a = some (.ins C dx fs) ∧ fs.lookup f = some y ∧ T1 G y) : EvP (tFld K ta f) σ F T1 := fun H1 e Q q => h H1 e _ fun v H2 e2 hv => by
  obtain ⟨a, dx, fs, y, rfl, h1, h2, h3⟩ := hT _ v hv
  exact ⟨a, C, dx, fs, y, rfl, nw_ex (e.trans e2) _ _ h1, c, n, h2, q y H2 e2 h3⟩
theorem kp_ev (kn : Kn M F0 H0 F H) (h : EvP te σ F T) (Q : VK) (k : ∀ v F1 H1, StpE M F0 H0 F H F1 H1 → T F1 v → Q v H1) : te σ H Q := h H kn.fh Q fun v H1 e hv => k v _ H1 (kn.step e) hv
theorem qp_asg {i : Nat} (kn : Kn M F0 H0 F H) (h : EvP te σ F T) (k : ∀ v F1 H1, StpE M F0 H0 F H F1 H1 → T F1 v → rest D (σ.set i (some v)) H1) : tSeq (tAsg te (gName i)) rest D σ H := kp_ev kn h _ k
theorem qp_drop (kn : Kn M F0 H0 F H) (h : EvP te σ F T) (k : ∀ F1 H1, StpE M F0 H0 F H F1 H1 → rest D σ H1) : tSeq (tDrop te) rest D σ H := kp_ev kn h _ fun _ F1 H1 s _ => k F1 H1 s
theorem kp_fin (hQ : ∀ v H', Ex H0 H' → T (nw F0 H0 H') v → Q v H') (mo : Mo T) (kn : Kn M0 F0 H0 F H) (h : EvP te σ F T) (hD : D.rt = Q := by rfl) : tRet te D σ H := kp_ev kn h _ fun v F1 H1 s hv => by
  rw [hD]
  exact hQ v H1 s.kn.hh (mo _ _ _ s.kn.nw hv)
end
/-! ### lists of whole numbers -/
section
variable {K : PySem.W.Frag} {σ : L2.St} {F H : Hp} {ta tb te : TE}
theorem DtAll.ofV {H : Hp} : ∀ {vs : List V} {ds : List PyData}, vs.map some = ds.map sc → DtAll H vs ds
  | [], [], _ => .nil
  | [], d :: ds, h => by simp at h
  | v :: vs, [], h => by simp at h
  | v :: vs, d :: ds, h => by
    rw [List.map_cons, List.map_cons] at h
    injection h with h1 h2
    exact .cons (sc_dt h1.symm) (DtAll.ofV h2)
/-- list(range(n)), list(range(a, b)) -/
theorem d_lrg1 {n : Int} (h : EvD te σ F (.int n)) (hr : RgOk 0 n) : EvD (tLstRg (tRg1 te)) σ F (.list ((List.range n.toNat).map fun i => PyData.int (i : Nat))) := fun H1 e Q q => h H1 e _ fun x H2 e2 hx => by
  cases hx.int_
  refine ⟨n, rfl, hr, fun l hl => q _ _ (e2.trans (Ex.new hl)) (ls_new e2 hl ?_)⟩
  refine DtAll.ofV ?_
  unfold rgV
  simp [sc]
theorem d_lrg2 {a b : Int} (ha : EvD ta σ F (.int a)) (hb : EvD tb σ F (.int b)) (hr : RgOk a b) : EvD (tLstRg (tRg2 ta tb)) σ F (.list ((List.range (b - a).toNat).map fun i => PyData.int (a + (i : Nat)))) := fun H1 e Q q => ha H1 e _ fun x H2 e2 hx => hb H2 (e.trans e2) _ fun y H3 e3 hy => by
  cases hx.int_
  cases hy.int_
  refine ⟨a, b, rfl, rfl, hr, fun l hl => q _ _ ((e2.trans e3).trans (Ex.new hl)) (ls_new (e2.trans e3) hl ?_)⟩
  refine DtAll.ofV ?_
  unfold rgV
  simp [sc]
end
/-! ### row[a:c] = e -/
section
variable {X : Cx} {o : Expr} {lo hi : Option Expr} {to : TE} {tl th : TO} {pos p2 : Pos}
def gSlc (to : TE) (tl th : TO) : TG := fun v σ H Q => to σ H fun x H1 => tl σ H1 fun a H2 => th σ H2 fun c H3 => ∃ (l b : Addr) (xs ys : List V) (i j : Int), x = .ref l ∧ v = .ref b ∧ a = some i ∧ c = some j ∧
  H3 l = some (.lst xs) ∧ H3 b = some (.lst ys) ∧ l ≠ b ∧ 0 ≤ i ∧ i ≤ j ∧ j ≤ xs.length ∧ xs.length + ys.length ≤ sizeLine ∧ Q σ (upd H3 l (.lst (xs.take i.toNat ++ ys ++ xs.drop j.toNat)))
theorem pg_slc (ho : PE X o to) (hl : PO X lo tl) (hu : PO X hi th)
    (asn : ∀ v, assign (.Subscript o (.Slice lo hi none p2) pos) X.env v = (do
      let ov ← holding [v] (eval o X.env)
      let iv ← holding [v, ov] (eval (.Slice lo hi none p2) X.env)
      standAt pos
      holding [v, ov, iv] (setItem ov iv v)
      release [iv, v, ov] []) := by intro _; rfl) : PG X (.Subscript o (.Slice lo hi none p2) pos) (gSlc to tl th) := by
  refine ⟨fun pins s σ H v u Q I rv h => ?_⟩
  rw [asn]
  refine wpAny_bind (wpAny_holding (thn (ho.run pins s σ H _ I h) fun ov s1 ⟨x, H1, I1, r1, q1⟩ => ?_))
  refine wpAny_bind (wpAny_holding ?_)
  refine wpAny_Slice (thn (hl.run pins s1 σ H1 _ I1 q1) fun vl s2 ⟨a, H2, I2, pl, q2⟩ => thn (hu.run pins s2 σ H2 _ I2 q2) fun vu s3 ⟨c, H3, I3, pu, q3⟩ => ?_)
  rw [evalPart_none]
  refine wpAny_pure ?_
  obtain ⟨l, b, xs, ys, i, j, rfl, rfl, rfl, rfl, hx, hy, ne, h0, hij, hj, hz, q⟩ := q3
  have I4 : Inv X pins σ H3 { s3 with heap := s3.heap.push { cls := .type "slice", data := .fields #[vl, vu, .none] } } := I3.kept (t' := s3.toks) fun _ _ z => Heap.get?_push_of_some _ z
  cases r1
  cases rv
  have ri : RelV (.int i) vl := by cases pl; exact ⟨_, rfl⟩
  have rj : RelV (.int j) vu := by cases pu; exact ⟨_, rfl⟩
  refine wpAny_bind (wpAny_standAt (wpAny_bind (wpAny_holding (set_slice I4 hx hy ne (Heap.IsSliceOf.new ..) ri rj h0 hij hj hz fun s5 I5 => ?_))))
  exact wpAny_release ⟨σ, _, I5, q⟩
end
end WB
namespace WB
open PySem PySem.Spec PyProof.Rows L2 Evl
section
variable {P : Program} {w : World} {K : PySem.W.Frag} {mg : Str → Option Value} {base : Heap}
theorem mk_mt {N ps : List Str} {k : Nat} {sp : Sp} {C : Addr} {m qual : Str} {params : Arguments} {body : List Stmt} {scope : Scope} {f : Addr} (F : ∃ fd, FunD K m qual params body scope [] [] f fd) (hc : Cls K C) (hm : Meth K C m f) (S : FnScope N ps scope)
    (hb : ∀ (kV doc pm : Value) (an : Option Addr) (cdv ct : Value) (us : List Value), us.length = ps.length → bindArgs (PySem.W.fnOf m qual params body scope .none kV doc pm an cdv ct) ⟨us, []⟩ = pure (ps.zip us))
    (len : ∀ vs H Q E, sp vs H Q E → vs.length = ps.length)
    (hbody : ∀ (cdv : Value) (A : Around) (outer : List Env) (s : Shared) (H : Hp) (vs : List V) (Q : VK) (E : XK), Room k (A.deeper (envOfC qual scope s.heap.objs.size f cdv)) → sp vs H Q E →
      ∃ t, PSs (cxOf (L2.CX P w) P w K mg base N qual scope f cdv A outer s H E) body t ∧ t { nx := fun _ H' => Q .non H', rt := Q } (start N vs) H) : Mt P w K mg base (k + 1) C m ps sp := by
  obtain ⟨fd, F⟩ := F
  exact ⟨f, fd, F.ok S len hbody, hc, hm, F.bindsN hb⟩
theorem mk_mc {N ps : List Str} {k : Nat} {sp : Sp} {C : Addr} {x m qual : Str} {params : Arguments} {body : List Stmt} {scope : Scope} {f : Addr} (F : ∃ fd, FunD K m qual params body scope [] [] f fd) (hM : Mk K C f) (hm : mg x = some (.ref C)) (S : FnScope N ps scope)
    (hb : ∀ (kV doc pm : Value) (an : Option Addr) (cdv ct : Value) (us : List Value), us.length = ps.length → bindArgs (PySem.W.fnOf m qual params body scope .none kV doc pm an cdv ct) ⟨us, []⟩ = pure (ps.zip us))
    (len : ∀ vs H Q E, sp vs H Q E → vs.length = ps.length)
    (hbody : ∀ (cdv : Value) (A : Around) (outer : List Env) (s : Shared) (H : Hp) (vs : List V) (Q : VK) (E : XK), Room k (A.deeper (envOfC qual scope s.heap.objs.size f cdv)) → sp vs H Q E →
      ∃ t, PSs (cxOf (L2.CX P w) P w K mg base N qual scope f cdv A outer s H E) body t ∧ t { nx := fun _ H' => Q .non H', rt := Q } (start N vs) H) : Mc P w K mg base (k + 1) x C ps sp := by
  obtain ⟨fd, F⟩ := F
  exact ⟨f, fd, F.ok S len hbody, hM, hm, F.bindsN hb⟩
end
end WB
/-! The rules whose reading names the written part, with it given (so that they go within a comprehension). -/
namespace WB
open PySem PySem.Spec PyProof.Rows L2 Evl
section
variable {X : Cx} {K : PySem.W.Frag} {T name id : String} {o e e2 : Expr} {es elts : List Expr} {to te tl : TE} {t ta : TA} {apos cpos pos p tpos : Pos} {r : V → List V → Hp → VK → Prop} {f : Str} {tg l : Expr} {kk : Nat}
theorem pe_bm0K (hK : X.K = K) (pa : PlainAttrs T) (slot : Slot T name id) (hty : typeOf (.builtin id) = pure (.type "method_descriptor")) (hm : MtR X id r) (ho : PE X o to)
    (hbase : attributeBase o name X.env (eval o X.env) = eval o X.env := by rfl) (hline : (apos.endLine == cpos.line) = true := by rfl) : PE X (.Call (.Attribute o name apos) [] [] cpos) (tBM0 K T r to) := by
  subst hK
  exact pe_bm0 pa slot hty hm ho hbase hline
theorem pe_bmK (hK : X.K = K) (pa : PlainAttrs T) (slot : Slot T name id) (hty : typeOf (.builtin id) = pure (.type "method_descriptor")) (hm : MtR X id r) (ho : PE X o to) (ha : PA X (e :: es) t)
    (hbase : attributeBase o name X.env (eval o X.env) = eval o X.env := by rfl)
    (hfew : ((backTo cpos (starEach (e :: es) X.env)).all (fun x => !x.1) && (backToKw cpos (keywordEach [] X.env)).all (fun x => x.1.isSome)
      && decide ((e :: es).length + ([] : List Keyword).length + (if ([] : List Keyword).isEmpty then 0 else 1) < 30)) = true := by rfl)
    (hline : (apos.endLine == cpos.line) = true := by rfl) (hs : starEach (e :: es) X.env = (false, eval e X.env) :: starEach es X.env := by rfl) (hplain : (backTo cpos (starEach es X.env)).any (·.1) = false := by rfl) :
    PE X (.Call (.Attribute o name apos) (e :: es) [] cpos) (tBM K T r to t) := by
  subst hK
  exact pe_bm pa slot hty hm ho ha hbase hfew hline hs hplain
theorem pe_fldK (hK : X.K = K) (he : PE X e te) (hb : attributeBase e f X.env (eval e X.env) = eval e X.env := by rfl) : PE X (.Attribute e f pos) (tFld K te f) := by
  subst hK
  exact pe_fld he hb
theorem pg_tupK {t : TGs} {n : Nat} (hK : X.K = K) (hc : X.calm = true) (h : PGs X es t)
    (hn : (assignEach es X.env).length = n := by rfl) (hst : (assignEach es X.env).findIdx? (·.1) = none := by rfl) : PG X (.Tuple es kk pos) (gTup K n t) := by
  subst hK
  exact pg_tup hc h hn hst
theorem pi_listK (hK : X.K = K) (hl : PE X l tl) : PI X tg l (iList K tl) := by
  subst hK
  exact pi_list hl
theorem pi_tupK (hK : X.K = K) (hl : PE X l tl) : PI X tg l (iTup K tl) := by
  subst hK
  exact pi_tup hl
theorem pi_enumK (hK : X.K = K) (hg : Gl X "enumerate") (hm : X.mg "enumerate" = none) (ha : PA X [e] ta) (hs : starEach [e] X.env = [(false, eval e X.env)] := by rfl) :
    PI X (.Tuple elts kk tpos) (.Call (.Name "enumerate" p) [e] [] pos) (iEnum K ta) := by
  subst hK
  exact pi_enum hg hm ha hs
theorem pi_zipK (hK : X.K = K) (hg : Gl X "zip") (hm : X.mg "zip" = none) (ha : PA X [e, e2] ta)
    (hs : starEach [e, e2] X.env = (false, eval e X.env) :: starEach [e2] X.env := by rfl) (hpl : (backTo pos (starEach [e2] X.env)).any (·.1) = false := by rfl) :
    PI X (.Tuple elts kk tpos) (.Call (.Name "zip" p) [e, e2] [] pos) (iZip K ta) := by
  subst hK
  exact pi_zip hg hm ha hs hpl
theorem pi_reversedK (hK : X.K = K) (hg : Gl X "reversed") (hm : X.mg "reversed" = none) (ha : PA X [e] ta) (hs : starEach [e] X.env = [(false, eval e X.env)] := by rfl) : PI X tg (.Call (.Name "reversed" p) [e] [] pos) (iRev K ta) := by
  subst hK
  exact pi_reversed hg hm ha hs
end
abbrev rTupQ (K : PySem.W.Frag) : List V → Hp → VK → Prop := fun xs H Q => ∃ p ys, xs = [.ref p] ∧ ((SqL K H p ys ∧ ∀ l, H l = none → Q (.ref l) (upd H l (.tup ys))) ∨ (SqT K H p ys ∧ Q (.ref p) H))
abbrev rLenSQ : List V → Hp → VK → Prop := fun xs H Q => ∃ z : Str, xs = [.str z] ∧ z.length ≤ sizeLine ∧ Q (.int z.length) H
abbrev rJoinQ (K : PySem.W.Frag) : V → List V → Hp → VK → Prop := fun x xs H Q => ∃ a p, ∃ ys : List Str, x = .str a ∧ xs = [.ref p] ∧ (SqL K H p (ys.map V.str) ∨ SqT K H p (ys.map V.str)) ∧ (ys.map (·.length)).sum + ys.length * a.length ≤ 16777216 ∧ Q (.str (Txt.join a ys)) H
section
variable {K : PySem.W.Frag} {σ : L2.St} {F H : Hp} {ta tb te : TE} {ds : List PyData}
theorem d_tupT (h : EvD te σ F (.tuple ds)) : EvD (tCB (rTupQ K) (tCons te tNil)) σ F (.tuple ds) := d_cb (da_cons h da_nil) fun H1 H2 e e2 xs hx Q q => by
  obtain ⟨x, rfl, h1⟩ := da1_ hx
  obtain ⟨a, ys, rfl, h2, h3⟩ := h1.tuple_
  exact ⟨a, ys, rfl, .inr ⟨SqT.of (nw_ex (e.trans e2) _ _ h2), q _ H2 (Ex.refl H2) (.tup h2 h3)⟩⟩
theorem d_tupL (h : EvD te σ F (.list ds)) : EvD (tCB (rTupQ K) (tCons te tNil)) σ F (.tuple ds) := d_cb (da_cons h da_nil) fun H1 H2 e e2 xs hx Q q => by
  obtain ⟨x, rfl, h1⟩ := da1_ hx
  obtain ⟨a, ys, rfl, h2, h3⟩ := h1.list_
  exact ⟨a, ys, rfl, .inl ⟨SqL.of (nw_ex (e.trans e2) _ _ h2), fun l hl => q _ _ (Ex.new hl) (tp_new e2 hl h3)⟩⟩
theorem d_joinL {a : Str} {ys : List Str} (ha : EvD ta σ F (.str a)) (h : EvD te σ F (.list (ys.map .str))) (hz : (ys.map (·.length)).sum + ys.length * a.length ≤ 16777216) : EvD (tBM K "str" (rJoinQ K) ta (tCons te tNil)) σ F (.str (Txt.join a ys)) := fun H1 e Q q =>
  ha H1 e _ fun x H2 e2 hx => by
    cases hx.str_
    refine ⟨rfl, h H2 (e.trans e2) _ fun y H3 e3 hy => ?_⟩
    obtain ⟨p, vs, rfl, h2, h3⟩ := hy.list_
    cases h3.strs_
    exact ⟨a, p, ys, rfl, rfl, .inl (SqL.of (nw_ex ((e.trans e2).trans e3) _ _ h2)), hz, q _ H3 (e2.trans e3) (.str _)⟩
end
end WB
/-! Instances made and filled. -/
namespace WB
open PySem PySem.Spec PyProof.Rows L2 Evl
section
variable {M : Addr → Prop} {F0 H0 F H : Hp}
theorem Kn.updM {l : Addr} {o : HO} (k : Kn M F0 H0 F H) (m : M l) : Kn M F0 H0 F (upd H l o) where
  f := k.f
  fh := fun a u h => by
    rw [upd_ne (fun z => by rw [z, k.md l m] at h; cases h)]
    exact k.fh a u h
  h := fun a u n h => by
    rw [upd_ne (fun z => n (by rw [z]; exact m))]
    exact k.h a u n h
  dm := fun a h => by
    by_cases z : a = l
    · rw [z, upd_same] at h
      cases h
    · rw [upd_ne z] at h
      exact k.dm a h
  nw := fun a u h => by
    have z : a ≠ l := fun z => by rw [z, k.md l m] at h; cases h
    have q := k.nw a u h
    cases q0 : H0 a with
    | none => rw [nw_n q0] at q ⊢; rw [upd_ne z]; exact q
    | some u0 => rw [nw_s q0] at q ⊢; exact q
  md := k.md
  mh := k.mh
end
section
variable {M : Addr → Prop} {K : PySem.W.Frag} {F0 H0 F H : Hp} {σ : L2.St} {ta tb te to tv : TE} {v : V} {D : Ends} {rest : TS} {Q : VK} {T T1 T2 : Hp → V → Prop} {C : Addr} {f : Str} {fs : List (Str × V)} {a dx : Addr}
/-- self.f = e, self one's own that may be written -/
theorem k_fld (kn : Kn M F0 H0 F H) (c : Cls K C) (n : NoAttr K C f) (hM : M a) (ha : H a = some (.ins C dx fs)) (hl : fs.length < 1000) (ho : Ev to σ F (.ref a)) (hv : EvP tv σ F T) (mo : Mo T)
    (k : ∀ y F1 H1, Kn M F0 H0 F1 H1 → Ex F F1 → T F1 y → H1 a = some (.ins C dx (putF f y fs)) → (∀ b o, b ≠ a → H b = some o → H1 b = some o) → D.nx σ H1) : sFld K to tv f D σ H :=
  hv H kn.fh _ fun y H1 e1 hy => ho H1 (kn.fh.trans e1) _ fun H2 e2 => ⟨a, C, dx, fs, rfl, e2 _ _ (e1 _ _ ha), c, n, hl, by
    have s := kn.step (e1.trans e2)
    exact k y _ _ (s.kn.updM hM) s.ff (mo _ _ _ (nw_r (exexn e2)) hy) upd_same fun b o ne h => by
      rw [upd_ne ne]
      exact e2 b o (e1 b o h)⟩
theorem q_fld (kn : Kn M F0 H0 F H) (c : Cls K C) (n : NoAttr K C f) (hM : M a) (ha : H a = some (.ins C dx fs)) (hl : fs.length < 1000) (ho : Ev to σ F (.ref a)) (hv : EvP tv σ F T) (mo : Mo T)
    (k : ∀ y F1 H1, Kn M F0 H0 F1 H1 → Ex F F1 → T F1 y → H1 a = some (.ins C dx (putF f y fs)) → (∀ b o, b ≠ a → H b = some o → H1 b = some o) → rest D σ H1) : tSeq (sFld K to tv f) rest D σ H := k_fld (D := { D with nx := rest D }) kn c n hM ha hl ho hv mo k
/-- .. F, what is new since H, and a -/
def nwb (F H H' : Hp) (a : Addr) : Hp := fun b => if b = a then H' a else nw F H H' b
/-- the promise of an __init__: args what the arguments are, res what the instance is behind it -/
def spNew {α : Type} (C : Addr) (args : α → Hp → List V → Prop) (res : α → Hp → V → Prop) : Sp := fun vs H Q _ => ∃ (F : Hp) (x : α) (a dx : Addr) (r : List V), vs = .ref a :: r ∧ H a = some (.ins C dx []) ∧ F a = none ∧ Ex F H ∧ args x F r ∧
  ∀ H', (∀ b o, b ≠ a → H b = some o → H' b = some o) → res x (nwb F H H' a) (.ref a) → Q .non H'
theorem p_make {α : Type} {args : α → Hp → List V → Prop} {res : α → Hp → V → Prop} {E : XK} {ta : TA} (x : α) (h : EvPA ta σ F (args x)) (mo : Mo (res x)) : EvP (tMake C (spNew C args res) [] E ta) σ F (res x) := fun H1 e Q q =>
  h H1 e _ fun xs H2 e2 hx p dx hp hdx ne => by
    have kp : ∀ b o, H2 b = some o → upd (upd H2 dx (.own p)) p (.ins C dx []) b = some o := fun b o hb => by
      rw [upd_ne (ne_of_none hb hp), upd_ne (ne_of_none hb hdx)]
      exact hb
    have fk : Ex (nw F H1 H2) H2 := nw_ex (e.trans e2)
    refine ⟨nw F H1 H2, x, p, dx, xs, by rw [List.append_nil], upd_same, ?_, fun b o hb => kp b o (fk b o hb), hx, fun H3 k3 hv => ⟨rfl, ?_⟩⟩
    · cases z : nw F H1 H2 p with
      | none => rfl
      | some u =>
        rw [fk p u z] at hp
        cases hp
    · refine q (.ref p) H3 (fun b o hb => k3 b o (ne_of_none (e2 b o hb) hp) (kp b o (e2 b o hb))) (mo _ _ _ (fun b o hb => ?_) hv)
      unfold nwb at hb
      by_cases z : b = p
      · rw [if_pos z] at hb
        rw [z, nw_n (exdm e2 p hp)]
        exact hb
      · rw [if_neg z] at hb
        cases w : upd (upd H2 dx (.own p)) p (.ins C dx []) b with
        | none =>
          rw [nw_n w] at hb
          have w2 : H2 b = none := by
            cases w2 : H2 b with
            | none => rfl
            | some u => rw [kp b u w2] at w; cases w
          rw [nw_n (exdm e2 b w2)]
          exact hb
        | some u =>
          rw [nw_s w] at hb
          cases z1 : H1 b with
          | none =>
            rw [nw_n z1] at hb ⊢
            exact k3 b o z (kp b o hb)
          | some u1 =>
            rw [nw_s z1] at hb ⊢
            exact hb
/-- an __init__'s start: its own instance may be written -/
theorem Kn.init (e : Ex F H) (hF : F a = none) (ha : H a = some (.ins C dx [])) : Kn (fun b => b = a) F H F H := Kn.startM e (fun b m => by rw [m]; exact hF) fun b m => by
  rw [m, ha]
  intro z
  cases z
/-- .. its end -/
theorem Kn.born (kn : Kn (fun b => b = a) F0 H0 F H) (ha : H a = some (.ins C dx fs)) : (∀ b o, b ≠ a → H0 b = some o → H b = some o) ∧ Ex (upd F a (.ins C dx fs)) (nwb F0 H0 H a) :=
  ⟨fun b o ne h => kn.h b o ne h, fun b o h => by
    unfold nwb
    by_cases z : b = a
    · rw [z, upd_same] at h
      rw [if_pos z, ha]
      exact h
    · rw [upd_ne z] at h
      rw [if_neg z]
      exact kn.nw b o h⟩
end
end WB
namespace WB
open PySem PySem.Spec PyProof.Rows L2 Evl
theorem range_map_get {α : Type} (rs : List α) (d : α) : (List.range rs.length).map (fun i => rs.getD i d) = rs := by
  apply List.ext_getElem?
  intro i
  rw [List.getElem?_map]
  by_cases hl : i < rs.length
  · rw [List.getElem?_range hl, List.getElem?_eq_getElem hl, Option.map_some, List.getD_eq_getElem?_getD, List.getElem?_eq_getElem hl]
    rfl
  · rw [List.getElem?_eq_none (by rw [List.length_range]; omega), List.getElem?_eq_none (by omega)]
    rfl
section
variable {σ : L2.St} {F : Hp} {te : TE} {g : TG} {wi : TI} {items rs : List PyData} {vs : List Nat}
/-- [elt for target in ..], what is made item by item -/
theorem d_lcm (h : WkD wi σ F items) (hz : items.length ≤ 40000) (hl : rs.length = items.length)
    (hs : ∀ (i : Nat) (d r : PyData) (x : V) (F' H' : Hp), items[i]? = some d → rs[i]? = some r → Ex F F' → Ex F' H' → Dt F' x d → ∀ Q : L2.St → Hp → Prop, (∀ σ2, wipe σ2 vs = wipe σ vs → EvD te σ2 F' r → Q σ2 H') → g x (wipe σ vs) H' Q) :
    EvD (tLc wi g tYes te vs) σ F (.list rs) := by
  refine (d_lc h hz (fun _ => true) (fun i => rs.getD i .none) fun i d v F'' H'' hi e1 e2 hd Q hQ' => ?_).is ?_
  · have hi2 : i < rs.length := by rw [hl]; exact (List.getElem?_eq_some_iff.mp hi).1
    have hr : rs[i]? = some rs[i] := List.getElem?_eq_getElem hi2
    refine hs i d _ v F'' H'' hi hr e1 e2 hd Q fun σ2 hw he => hQ' σ2 hw (fun H1 _ Q q => q H1 (Ex.refl H1)) fun _ => ?_
    rw [show rs.getD i .none = rs[i] by rw [List.getD_eq_getElem?_getD, hr]; rfl]
    exact he
  · rw [List.filter_eq_self.mpr (fun _ _ => rfl), ← hl, range_map_get]
end
theorem map_at {α β : Type} {f : α → β} {xs : List α} {i : Nat} {d : β} (h : (xs.map f)[i]? = some d) : ∃ x, xs[i]? = some x ∧ d = f x := by
  rw [List.getElem?_map] at h
  cases z : xs[i]? with
  | none => rw [z] at h; cases h
  | some q => rw [z] at h; exact ⟨q, rfl, (Option.some.inj h).symm⟩
end WB
/-! Lists of one's own that are read while they grow; instances looked at. -/
namespace WB
open PySem PySem.Spec PyProof.Rows L2 Evl
section
variable {M : Addr → Prop} {K : PySem.W.Frag} {F0 H0 F H G : Hp} {σ : L2.St} {ta tb te tx : TE} {t u : TT} {d d1 d2 d3 : PyData} {v z : V} {D : Ends} {tu tw rest : TS} {g : TG} {T : Hp → V → Prop}
/-- F, and a list of one's own as it stands now -/
theorem ex_own {l : Addr} {o : HO} (kn : Kn M F0 H0 F H) (hl : H l = some o) : Ex (upd F l o) H := fun a u h => by
  by_cases q : a = l
  · rw [q, upd_same] at h
    rw [q, hl]
    exact h
  · rw [upd_ne q] at h
    exact kn.fh a u h
theorem dt_own {l : Addr} {xs : List V} {ds : List PyData} (hF : F l = none) (h : DtAll F xs ds) : Dt (upd F l (.lst xs)) (.ref l) (.list ds) := .lst upd_same (h.ex (ex_know hF))
/-- a test over more than is known for good -/
theorem k_ifG {b : Bool} (kn : Kn M F0 H0 F H) (eG : Ex G H) (h : EvT t σ G b) (h1 : b = true → ∀ F1 H1, StpE M F0 H0 F H F1 H1 → tu D σ H1) (h2 : b = false → ∀ F1 H1, StpE M F0 H0 F H F1 H1 → tw D σ H1) : tIfS t tu tw D σ H := h H eG _ fun H1 e => by
  cases b with
  | true => exact h1 rfl _ H1 (kn.step e)
  | false => exact h2 rfl _ H1 (kn.step e)
theorem q_ifGF {b : Bool} (kn : Kn M F0 H0 F H) (eG : Ex G H) (h : EvT t σ G b) (hb : b = false) (k : ∀ F1 H1, StpE M F0 H0 F H F1 H1 → rest D σ H1) : tSeq (tIfS t tu tNext) rest D σ H := by
  subst hb
  exact k_ifG (D := { D with nx := rest D }) kn eG h (fun z => nomatch z) fun _ => k
/-- a scalar, evaluated over more than is known for good -/
theorem k_asgS {i : Nat} (kn : Kn M F0 H0 F H) (eG : Ex G H) (h : EvD te σ G d) (hs : sc d = some z) (k : ∀ F1 H1, StpE M F0 H0 F H F1 H1 → D.nx (σ.set i (some z)) H1) : tAsg te (gName i) D σ H := h H eG _ fun v H1 e hv => by
  cases dt_sc hv hs
  exact k _ H1 (kn.step e)
theorem q_asgS {i : Nat} (kn : Kn M F0 H0 F H) (eG : Ex G H) (h : EvD te σ G d) (hs : sc d = some z) (k : ∀ F1 H1, StpE M F0 H0 F H F1 H1 → rest D (σ.set i (some z)) H1) : tSeq (tAsg te (gName i)) rest D σ H := k_asgS (D := { D with nx := rest D }) kn eG h hs k
/-- xs.append(e), e a scalar that may be read off xs itself -/
theorem k_appS {l : Addr} {xs : List V} (kn : Kn M F0 H0 F H) (hl : H l = some (.lst xs)) (hF : F l = none) (h0 : H0 l = none) (ha : Ev ta σ H (.ref l)) (eG : Ex G H) (h : EvD te σ G d) (hs : sc d = some z) (hz : xs.length < 100000)
    (k : ∀ F1 H1, Kn M F0 H0 F1 H1 → Ex F F1 → F1 l = none → H1 l = some (.lst (xs ++ [z])) → (∀ a o, a ≠ l → H a = some o → H1 a = some o) → (∀ a o, H a = some o → F a = none → F1 a = none) → D.nx σ H1) :
    tDrop (tBM K "list" rAppend ta (tCons te tNil)) D σ H := ha H (Ex.refl H) _ fun H1 e1 =>
  ⟨Or.inl ⟨rfl, xs, sq_of (e1 l _ hl)⟩, h H1 (eG.trans e1) _ fun v H2 e2 hv => ⟨l, xs, v, rfl, rfl, e2 l _ (e1 l _ hl), sz_lt hz, by
    cases dt_sc hv hs
    have s := kn.step (e1.trans e2)
    have n := s.fr l _ hl hF
    exact k _ _ (s.kn.upd_ n h0) s.ff n upd_same (fun a o ne h => by rw [upd_ne ne]; exact e2 a o (e1 a o h)) s.fr⟩⟩
theorem q_appS {l : Addr} {xs : List V} (kn : Kn M F0 H0 F H) (hl : H l = some (.lst xs)) (hF : F l = none) (h0 : H0 l = none) (ha : Ev ta σ H (.ref l)) (eG : Ex G H) (h : EvD te σ G d) (hs : sc d = some z) (hz : xs.length < 100000)
    (k : ∀ F1 H1, Kn M F0 H0 F1 H1 → Ex F F1 → F1 l = none → H1 l = some (.lst (xs ++ [z])) → (∀ a o, a ≠ l → H a = some o → H1 a = some o) → (∀ a o, H a = some o → F a = none → F1 a = none) → rest D σ H1) :
    tSeq (tDrop (tBM K "list" rAppend ta (tCons te tNil))) rest D σ H := k_appS (D := { D with nx := rest D }) kn hl hF h0 ha eG h hs hz k
theorem pa_cons1 {X1 : Hp → V → Prop} (h : EvP ta σ F X1) (mo : Mo X1) : EvPA (tCons ta tNil) σ F (fun H vs => ∃ v, vs = [v] ∧ X1 H v) := fun H1 e _ q =>
  h H1 e _ fun x H2 e2 hx => q [x] H2 e2 ⟨x, rfl, hx⟩
/-- isinstance of an instance -/
theorem p_isiO {C : Addr} {b : Bool} {ty : Value} (h : EvP te σ F T) (hT : ∀ G v, T G v → TyX K G v ty) (mo : Mo T) (hb : PySem.W.kitOne K ty (.ref C) = some b) : EvD (tCB (rIsi K) (tCons te (tCons (tC (.ref C)) tNil))) σ F (.bool b) := fun H1 e Q q =>
  h H1 e _ fun x H2 e2 hx => ⟨x, .ref C, _, _, b, rfl, .own C, hT _ _ (mo _ _ _ (nw_ex (e.trans e2)) hx), hb, q _ H2 e2 (.bl b)⟩
end
end WB
/-! Trees: data all of whose lists are told by their addresses. -/
namespace WB
open PySem PySem.Spec PyProof.Rows L2 Evl
mutual
inductive Tr (H : Hp) : V → PyData → List Addr → Prop
  | non : Tr H .non .none []
  | int (i : Int) : Tr H (.int i) (.int i) []
  | lst {a : Addr} {xs : List V} {ds : List PyData} {as : List Addr} : H a = some (.lst xs) → TrAll H xs ds as → Tr H (.ref a) (.list ds) (a :: as)
  | tup {a : Addr} {xs : List V} {ds : List PyData} {as : List Addr} : H a = some (.tup xs) → TrAll H xs ds as → Tr H (.ref a) (.tuple ds) as
inductive TrAll (H : Hp) : List V → List PyData → List Addr → Prop
  | nil : TrAll H [] [] []
  | cons {v : V} {vs : List V} {d : PyData} {ds : List PyData} {as bs : List Addr} : Tr H v d as → TrAll H vs ds bs → TrAll H (v :: vs) (d :: ds) (as ++ bs)
end
mutual
theorem Tr.ex {H H' : Hp} (e : Ex H H') : ∀ {v : V} {d : PyData} {as : List Addr}, Tr H v d as → Tr H' v d as
  | _, _, _, .non => .non
  | _, _, _, .int i => .int i
  | _, _, _, .lst h a => .lst (e _ _ h) (TrAll.ex e a)
  | _, _, _, .tup h a => .tup (e _ _ h) (TrAll.ex e a)
theorem TrAll.ex {H H' : Hp} (e : Ex H H') : ∀ {vs : List V} {ds : List PyData} {as : List Addr}, TrAll H vs ds as → TrAll H' vs ds as
  | _, _, _, .nil => .nil
  | _, _, _, .cons h a => .cons (Tr.ex e h) (TrAll.ex e a)
end
mutual
theorem Tr.dt {H : Hp} : ∀ {v : V} {d : PyData} {as : List Addr}, Tr H v d as → Dt H v d
  | _, _, _, .non => .non
  | _, _, _, .int i => .int i
  | _, _, _, .lst h a => .lst h (TrAll.dt a)
  | _, _, _, .tup h a => .tup h (TrAll.dt a)
theorem TrAll.dt {H : Hp} : ∀ {vs : List V} {ds : List PyData} {as : List Addr}, TrAll H vs ds as → DtAll H vs ds
  | _, _, _, .nil => .nil
  | _, _, _, .cons h a => .cons (Tr.dt h) (TrAll.dt a)
end
mutual
theorem Tr.has {H : Hp} : ∀ {v : V} {d : PyData} {as : List Addr}, Tr H v d as → ∀ a ∈ as, ∃ xs, H a = some (.lst xs)
  | _, _, _, .non => fun a h => by cases h
  | _, _, _, .int i => fun a h => by cases h
  | _, _, _, .lst h a => fun b hb => by
    rcases List.mem_cons.mp hb with e | e
    · rw [e]; exact ⟨_, h⟩
    · exact TrAll.has a b e
  | _, _, _, .tup h a => TrAll.has a
theorem TrAll.has {H : Hp} : ∀ {vs : List V} {ds : List PyData} {as : List Addr}, TrAll H vs ds as → ∀ a ∈ as, ∃ xs, H a = some (.lst xs)
  | _, _, _, .nil => fun a h => by cases h
  | _, _, _, .cons h a => fun b hb => by
    rcases List.mem_append.mp hb with e | e
    · exact Tr.has h b e
    · exact TrAll.has a b e
end
theorem TrAll.app {H : Hp} : ∀ {vs ws : List V} {ds es : List PyData} {as bs : List Addr}, TrAll H vs ds as → TrAll H ws es bs → TrAll H (vs ++ ws) (ds ++ es) (as ++ bs)
  | _, _, _, _, _, _, .nil, b => b
  | _, _, _, _, _, _, .cons h a, b => by
    rw [List.append_assoc]
    exact .cons h (TrAll.app a b)
theorem TrAll.one {H : Hp} {v : V} {d : PyData} {as : List Addr} (h : Tr H v d as) : TrAll H [v] [d] as := by
  have z := TrAll.cons h .nil
  rw [List.append_nil] at z
  exact z
theorem TrAll.ints {H : Hp} : ∀ ns : List Int, TrAll H (ns.map V.int) (ns.map PyData.int) []
  | [] => .nil
  | n :: ns => TrAll.cons (.int n) (TrAll.ints ns)
/-- whole numbers from 0 on -/
def natsD (ns : List Nat) : PyData := .list (ns.map fun (n : Nat) => PyData.int (n : Int))
def natsV (ns : List Nat) : List V := ns.map fun (n : Nat) => V.int (n : Int)
theorem nats_all {H : Hp} : ∀ ns : List Nat, TrAll H (natsV ns) (ns.map fun (n : Nat) => PyData.int (n : Int)) []
  | [] => .nil
  | n :: ns => TrAll.cons (.int n) (nats_all ns)
theorem nats_tr {H : Hp} {a : Addr} {ns : List Nat} (h : H a = some (.lst (natsV ns))) : Tr H (.ref a) (natsD ns) [a] := .lst h (nats_all ns)
theorem nats_of {H : Hp} : ∀ {vs : List V} {ns : List Nat}, DtAll H vs (ns.map fun (n : Nat) => PyData.int (n : Int)) → vs = natsV ns
  | vs, [], h => h.nil_
  | vs, n :: ns, h => by
    obtain ⟨v, r, rfl, h1, h2⟩ := h.cons_
    rw [h1.int_, nats_of h2]
    rfl
theorem Tr.nats_ {H : Hp} {v : V} {ns : List Nat} {as : List Addr} (h : Tr H v (natsD ns) as) : ∃ a, v = .ref a ∧ as = [a] ∧ H a = some (.lst (natsV ns)) := by
  cases h with
  | @lst a xs ds as' h1 h2 =>
    have z := nats_of h2.dt
    subst z
    refine ⟨a, rfl, ?_, h1⟩
    have k : ∀ {vs : List V} {ns : List Nat} {bs : List Addr}, TrAll H vs (ns.map fun (n : Nat) => PyData.int (n : Int)) bs → bs = [] := by
      intro vs ns
      induction ns generalizing vs with
      | nil => intro bs h; cases h; rfl
      | cons n ns ih =>
        intro bs h
        rw [List.map_cons] at h
        cases h with
        | cons h3 h4 =>
          cases h3
          exact ih h4
    rw [k h2]
/-- te gives a tree of new lists, read over G; what it gives is of F or new -/
def EvR (te : TE) (σ : L2.St) (G F : Hp) (d : PyData) : Prop := ∀ H1, Ex G H1 → ∀ Q : VK, (∀ v H2 as, Ex H1 H2 → Tr (nw F H1 H2) v d as → as.Nodup → (∀ a ∈ as, H1 a = none) → Q v H2) → te σ H1 Q
section
variable {M : Addr → Prop} {K : PySem.W.Frag} {F0 H0 F H G : Hp} {σ : L2.St} {ta tb te tx : TE} {t u : TT} {d d1 d2 d3 : PyData} {v z : V} {D : Ends} {tu tw rest : TS} {g : TG} {T : Hp → V → Prop} {Q : VK}
theorem mo_tr (d : PyData) (as : List Addr) : Mo (fun H v => Tr H v d as) := fun _ _ _ e h => h.ex e
theorem EvR.toD (h : EvR te σ F F d) : EvD te σ F d := fun H1 e Q q => h H1 e Q fun v H2 as e2 ht _ _ => q v H2 e2 ht.dt
/-- a new list of numbers -/
theorem er_nats {ns : List Nat} (h : ∀ H1, Ex G H1 → ∀ Q : VK, (∀ p H2, Ex H1 H2 → H1 p = none → H2 p = some (.lst (natsV ns)) → Q (.ref p) H2) → te σ H1 Q) : EvR te σ G F (natsD ns) := fun H1 e Q q =>
  h H1 e Q fun p H2 e2 hp hx => q (.ref p) H2 [p] e2 (nats_tr (by rw [nw_n hp]; exact hx)) (List.nodup_cons.mpr ⟨(fun z => nomatch z), List.nodup_nil⟩) fun a ha => by
    rw [List.mem_singleton.mp ha]
    exact hp
/-- row[lo:hi] -/
theorem er_sl {tl th : TO} {ns ms : List Nat} {lo hi : Option Int} {l : Addr} (h : Ev te σ G (.ref l)) (hl : G l = some (.lst (natsV ns))) (h1 : EvO tl σ G lo) (h2 : EvO th σ G hi) (hc : cutV (natsV ns) lo hi = natsV ms) : EvR (tSl (rSlL K) te tl th) σ G F (natsD ms) :=
  er_nats fun H1 e Q q => h H1 e _ fun H2 e2 => h1 H2 (e.trans e2) _ fun H3 e3 => h2 H3 ((e.trans e2).trans e3) _ fun H4 e4 => by
    have e24 := (e2.trans e3).trans e4
    exact ⟨l, _, rfl, SqL.of ((e.trans e24) _ _ hl), fun p hp => q p _ (e24.trans (Ex.new hp)) (exdm e24 p hp) (by rw [upd_same, hc])⟩
/-- row + row -/
theorem er_cat {ns ms : List Nat} (ha : EvD ta σ G (natsD ns)) (hb : EvD tb σ G (natsD ms)) (hz : ns.length + ms.length ≤ sizeLine) : EvR (tOp rCat ta tb) σ G F (natsD (ns ++ ms)) :=
  er_nats fun H1 e Q q => ha H1 e _ fun x H2 e2 hx => hb H2 (e.trans e2) _ fun y H3 e3 hy => by
    obtain ⟨a, xs, rfl, h1, h2⟩ := hx.list_
    obtain ⟨b, zs, rfl, h3, h4⟩ := hy.list_
    have z1 := nats_of h2
    have z2 := nats_of h4
    subst z1 z2
    refine ⟨a, b, natsV ns, natsV ms, rfl, rfl, e3 _ _ (nw_ex (e.trans e2) _ _ h1), nw_ex ((e.trans e2).trans e3) _ _ h3, ?_, fun p hp => q p _ ((e2.trans e3).trans (Ex.new hp)) (exdm (e2.trans e3) p hp) ?_⟩
    · unfold natsV
      rw [List.length_map, List.length_map]
      exact hz
    · rw [upd_same]
      unfold natsV
      rw [List.map_append]
/-- list(range(n)), list(range(a, b)) -/
theorem er_rg1 {n : Nat} (h : EvD te σ G (.int (n : Int))) (hr : RgOk 0 n) : EvR (tLstRg (tRg1 te)) σ G F (natsD (List.range n)) := er_nats fun H1 e Q q => h H1 e _ fun x H2 e2 hx => by
  cases hx.int_
  refine ⟨n, rfl, hr, fun l hl => q l _ (e2.trans (Ex.new hl)) (exdm e2 l hl) ?_⟩
  rw [upd_same]
  unfold rgV natsV
  simp
theorem er_rg2 {a n : Nat} (ha : EvD ta σ G (.int (a : Int))) (hb : EvD tb σ G (.int ((a : Int) + (n : Int)))) (hr : RgOk a (a + n)) : EvR (tLstRg (tRg2 ta tb)) σ G F (natsD ((List.range n).map fun j => a + j)) := er_nats fun H1 e Q q => ha H1 e _ fun x H2 e2 hx => hb H2 (e.trans e2) _ fun y H3 e3 hy => by
  cases hx.int_
  cases hy.int_
  refine ⟨a, (a : Int) + (n : Int), rfl, rfl, hr, fun l hl => q l _ ((e2.trans e3).trans (Ex.new hl)) (exdm (e2.trans e3) l hl) ?_⟩
  rw [upd_same]
  unfold rgV natsV
  have z : ((a : Int) + (n : Int) - (a : Int)).toNat = n := by omega
  rw [z, List.map_map]
  congr 1
/-- name = tree -/
theorem k_asgR {i : Nat} (kn : Kn M F0 H0 F H) (eG : Ex G H) (h : EvR te σ G F d) (k : ∀ v as F1 H1, StpE M F0 H0 F H F1 H1 → Tr F1 v d as → as.Nodup → (∀ a ∈ as, H a = none) → D.nx (σ.set i (some v)) H1) : tAsg te (gName i) D σ H := h H eG _ fun v H1 as e ht hn h0 => k v as _ H1 (kn.step e) ht hn h0
theorem q_asgR {i : Nat} (kn : Kn M F0 H0 F H) (eG : Ex G H) (h : EvR te σ G F d) (k : ∀ v as F1 H1, StpE M F0 H0 F H F1 H1 → Tr F1 v d as → as.Nodup → (∀ a ∈ as, H a = none) → rest D (σ.set i (some v)) H1) : tSeq (tAsg te (gName i)) rest D σ H := k_asgR (D := { D with nx := rest D }) kn eG h k
/-- name = row, a list of numbers that is one's own: it may be written -/
theorem q_row {i : Nat} {ns : List Nat} (kn : Kn M F0 H0 F H) (h : EvR te σ F F (natsD ns)) (k : ∀ l H1, StpE M F0 H0 F H (but (nw F H H1) l) H1 → H l = none → H1 l = some (.lst (natsV ns)) → rest D (σ.set i (some (.ref l))) H1) : tSeq (tAsg te (gName i)) rest D σ H := h H kn.fh _ fun v H1 as e ht hn h0 => by
  obtain ⟨l, rfl, rfl, hl⟩ := ht.nats_
  have hl0 : H l = none := h0 l (List.mem_singleton.mpr rfl)
  have s := kn.step e
  refine k l H1 ⟨⟨⟨?_, ?_, s.kn.h, s.kn.dm, ?_, ?_, s.kn.mh⟩, ?_, s.hm, ?_⟩, e⟩ hl0 (by rw [nw_n hl0] at hl; exact hl)
  · intro a o ha
    have : a ≠ l := fun q => by rw [q] at ha; rw [kn.fh _ _ (kn.f _ _ ha)] at hl0; cases hl0
    rw [but_ne this]
    exact s.kn.f a o ha
  · intro a o ha
    by_cases q : a = l
    · rw [q, but_same] at ha; cases ha
    · rw [but_ne q] at ha; exact s.kn.fh a o ha
  · intro a o ha
    by_cases q : a = l
    · rw [q, but_same] at ha; cases ha
    · rw [but_ne q] at ha; exact s.kn.nw a o ha
  · intro a m
    by_cases q : a = l
    · rw [q, but_same]
    · rw [but_ne q]; exact s.kn.md a m
  · intro a o ha
    have : a ≠ l := fun q => by rw [q] at ha; rw [kn.fh _ _ ha] at hl0; cases hl0
    rw [but_ne this]
    exact s.ff a o ha
  · intro a o ha hf
    by_cases q : a = l
    · rw [q, but_same]
    · rw [but_ne q]; exact s.fr a o ha hf
/-- name = [..], a list of one's own; it is new -/
theorem q_newN {i : Nat} {ta : TA} {ds : List PyData} (kn : Kn M F0 H0 F H) (h : EvDA ta σ F ds) (hz : ds.length ≤ 100000) (k : ∀ l xs F1 H1, StpE M F0 H0 F H F1 H1 → F1 l = none → H l = none → H1 l = some (.lst xs) → DtAll F1 xs ds → rest D (σ.set i (some (.ref l))) H1) : tSeq (tAsg (tLst ta) (gName i)) rest D σ H :=
  h H kn.fh _ fun xs H1 e hx => ⟨by rw [hx.len]; exact sz_of hz, fun l hl => by
    have s := kn.step e
    have s2 : StpE M F0 H0 F H (WB.nw F H H1) (upd H1 l (.lst xs)) := ⟨⟨s.kn.upd_ (by rw [nw_n (exdm e l hl), hl]) (s.kn.dm l hl), s.ff, s.hm.trans (ExM.of (Ex.new hl)), s.fr⟩, e.trans (Ex.new hl)⟩
    exact k l xs _ _ s2 (by rw [nw_n (exdm e l hl), hl]) (exdm e l hl) upd_same hx⟩
/-- xs.append(e), any word about e's value -/
theorem k_appP {l : Addr} {xs : List V} (kn : Kn M F0 H0 F H) (hl : H l = some (.lst xs)) (hF : F l = none) (h0 : H0 l = none) (ha : Ev ta σ H (.ref l)) (h : EvP te σ F T) (mo : Mo T) (hz : xs.length < 100000)
    (k : ∀ v F1 H1, Kn M F0 H0 F1 H1 → Ex F F1 → F1 l = none → T F1 v → H1 l = some (.lst (xs ++ [v])) → (∀ a o, a ≠ l → H a = some o → H1 a = some o) → (∀ a o, H a = some o → F a = none → F1 a = none) → D.nx σ H1) :
    tDrop (tBM K "list" rAppend ta (tCons te tNil)) D σ H := ha H (Ex.refl H) _ fun H1 e1 =>
  ⟨Or.inl ⟨rfl, xs, sq_of (e1 l _ hl)⟩, h H1 (kn.fh.trans e1) _ fun v H2 e2 hv => ⟨l, xs, v, rfl, rfl, e2 l _ (e1 l _ hl), sz_lt hz, by
    have s := kn.step (e1.trans e2)
    have n := s.fr l _ hl hF
    refine k v _ _ (s.kn.upd_ n h0) s.ff n (mo _ _ _ (nw_l kn.fh (exdm e1)) hv) upd_same (fun a o ne h => by rw [upd_ne ne]; exact e2 a o (e1 a o h)) s.fr⟩⟩
/-- .. of a new tree, read over G -/
theorem k_appR {l : Addr} {xs : List V} (kn : Kn M F0 H0 F H) (hl : H l = some (.lst xs)) (hF : F l = none) (h0 : H0 l = none) (ha : Ev ta σ H (.ref l)) (eG : Ex G H) (h : EvR te σ G F d) (hz : xs.length < 100000)
    (k : ∀ v as F1 H1, Kn M F0 H0 F1 H1 → Ex F F1 → F1 l = none → Tr F1 v d as → as.Nodup → (∀ a ∈ as, H a = none) → H1 l = some (.lst (xs ++ [v])) → (∀ a o, a ≠ l → H a = some o → H1 a = some o) → (∀ a o, H a = some o → F a = none → F1 a = none) → D.nx σ H1) :
    tDrop (tBM K "list" rAppend ta (tCons te tNil)) D σ H := ha H (Ex.refl H) _ fun H1 e1 =>
  ⟨Or.inl ⟨rfl, xs, sq_of (e1 l _ hl)⟩, h H1 (eG.trans e1) _ fun v H2 as e2 ht hn hf => ⟨l, xs, v, rfl, rfl, e2 l _ (e1 l _ hl), sz_lt hz, by
    have s := kn.step (e1.trans e2)
    have n := s.fr l _ hl hF
    refine k v as _ _ (s.kn.upd_ n h0) s.ff n (ht.ex (nw_l kn.fh (exdm e1))) hn (fun a m => exdm e1 a (hf a m)) upd_same (fun a o ne h => by rw [upd_ne ne]; exact e2 a o (e1 a o h)) s.fr⟩⟩
/-- (e, e) of values told by a word -/
theorem p_tup2 {T1 T2 : Hp → V → Prop} (ha : EvP ta σ F T1) (m1 : Mo T1) (hb : EvP tb σ F T2) (m2 : Mo T2) : EvP (tTup (tCons ta (tCons tb tNil))) σ F (fun H v => ∃ p x y, v = .ref p ∧ H p = some (.tup [x, y]) ∧ T1 H x ∧ T2 H y) := fun H1 e Q q =>
  ha H1 e _ fun x H2 e2 hx => hb H2 (e.trans e2) _ fun y H3 e3 hy => ⟨(show 2 ≤ sizeLine by decide), fun p hp => q _ _ ((e2.trans e3).trans (Ex.new hp)) ⟨p, x, y, rfl, by rw [nw_n (exdm (e2.trans e3) p hp), upd_same], m1 _ _ _ (nw_r (exexn (e3.trans (Ex.new hp)))) hx, m2 _ _ _ ((nw_l e (exdm e2)).trans (nw_r (exexn (Ex.new hp)))) hy⟩⟩
/-- row[lo:hi] = list -/
theorem k_slc {l b : Addr} {xs ys : List V} {tl th : TO} {lo hi : Int} (kn : Kn M F0 H0 F H) (hl : H l = some (.lst xs)) (hF : F l = none) (h0 : H0 l = none) (hb : F b = some (.lst ys)) (he : Ev te σ H (.ref b)) (ha : Ev ta σ H (.ref l)) (h1 : EvO tl σ H (some lo)) (h2 : EvO th σ H (some hi))
    (c0 : 0 ≤ lo) (c1 : lo ≤ hi) (c2 : hi ≤ xs.length) (c3 : xs.length + ys.length ≤ sizeLine)
    (k : ∀ F1 H1, Kn M F0 H0 F1 H1 → Ex F F1 → F1 l = none → H1 l = some (.lst (xs.take lo.toNat ++ ys ++ xs.drop hi.toNat)) → (∀ a o, a ≠ l → H a = some o → H1 a = some o) → (∀ a o, H a = some o → F a = none → F1 a = none) → D.nx σ H1) :
    tAsg te (gSlc ta tl th) D σ H := he H (Ex.refl H) _ fun H1 e1 => ha H1 e1 _ fun H2 e2 => h1 H2 (e1.trans e2) _ fun H3 e3 => h2 H3 ((e1.trans e2).trans e3) _ fun H4 e4 => by
  have e := ((e1.trans e2).trans e3).trans e4
  have s := kn.step e
  have n := s.fr l _ hl hF
  exact ⟨l, b, xs, ys, lo, hi, rfl, rfl, rfl, rfl, e _ _ hl, e _ _ (kn.fh _ _ hb), (fun q => by rw [q, hb] at hF; cases hF), c0, c1, c2, c3, k _ _ (s.kn.upd_ n h0) s.ff n upd_same (fun a o ne h => by rw [upd_ne ne]; exact e a o h) s.fr⟩
theorem q_slc {l b : Addr} {xs ys : List V} {tl th : TO} {lo hi : Int} (kn : Kn M F0 H0 F H) (hl : H l = some (.lst xs)) (hF : F l = none) (h0 : H0 l = none) (hb : F b = some (.lst ys)) (he : Ev te σ H (.ref b)) (ha : Ev ta σ H (.ref l)) (h1 : EvO tl σ H (some lo)) (h2 : EvO th σ H (some hi))
    (c0 : 0 ≤ lo) (c1 : lo ≤ hi) (c2 : hi ≤ xs.length) (c3 : xs.length + ys.length ≤ sizeLine)
    (k : ∀ F1 H1, Kn M F0 H0 F1 H1 → Ex F F1 → F1 l = none → H1 l = some (.lst (xs.take lo.toNat ++ ys ++ xs.drop hi.toNat)) → (∀ a o, a ≠ l → H a = some o → H1 a = some o) → (∀ a o, H a = some o → F a = none → F1 a = none) → rest D σ H1) :
    tSeq (tAsg te (gSlc ta tl th)) rest D σ H := k_slc (D := { D with nx := rest D }) kn hl hF h0 hb he ha h1 h2 c0 c1 c2 c3 k
/-- name = xs[i], xs one's own list -/
theorem q_ixO {i : Nat} {l : Addr} {xs : List V} {j : Int} {v : V} (kn : Kn M F0 H0 F H) (hl : H l = some (.lst xs)) (ha : Ev ta σ H (.ref l)) (hi : Ev tb σ H (.int j)) (h : atI xs j = some v) (k : ∀ F1 H1, StpE M F0 H0 F H F1 H1 → rest D (σ.set i (some v)) H1) : tSeq (tAsg (tOp (rIxL K) ta tb) (gName i)) rest D σ H :=
  ha H (Ex.refl H) _ fun H1 e1 => hi H1 e1 _ fun H2 e2 => ⟨l, xs, j, v, rfl, rfl, SqL.of (e2 _ _ (e1 _ _ hl)), h, k _ H2 (kn.step (e1.trans e2))⟩
/-- the promise of a def that tells a new tree -/
def SpR {α : Type} (args : α → Hp → List V → Prop) (res : α → PyData) : Sp := fun vs H Q _ => ∃ F x, Ex F H ∧ args x F vs ∧ ∀ v H' as, Ex H H' → Tr (nw F H H') v (res x) as → as.Nodup → (∀ a ∈ as, H a = none) → Q v H'
theorem r_call {α : Type} {args : α → Hp → List V → Prop} {res : α → PyData} {E : XK} {ta : TA} (x : α) (h : EvPA ta σ F (args x)) : EvR (tCall (SpR args res) [] E ta) σ F F (res x) := fun H1 e Q q =>
  h H1 e _ fun xs H2 e2 hx => by
    show SpR args res (xs ++ []) H2 Q E
    rw [List.append_nil]
    exact ⟨nw F H1 H2, x, nw_ex (e.trans e2), hx, fun v H3 as e3 hv hn hf => q v H3 as (e2.trans e3) (hv.ex (nw_nw e2 e3)) hn fun a m => exdm e2 a (hf a m)⟩
theorem mo_tup2 {T1 T2 : Hp → V → Prop} (m1 : Mo T1) (m2 : Mo T2) : Mo (fun H v => ∃ p x y, v = .ref p ∧ H p = some (.tup [x, y]) ∧ T1 H x ∧ T2 H y) := fun H H' v e ⟨p, x, y, a, b, c, d⟩ => ⟨p, x, y, a, e _ _ b, m1 _ _ _ e c, m2 _ _ _ e d⟩
theorem EvR.is {e : PyData} (h : EvR te σ G F d) (q : d = e) : EvR te σ G F e := q ▸ h
theorem nodup_two {as : List Addr} {a b : Addr} (n : as.Nodup) (ha : a ∉ as) (hb : b ∉ as) (ne : a ≠ b) : (as ++ [a, b]).Nodup := by
  refine List.nodup_append.mpr ⟨n, by simp [ne], ?_⟩
  intro c hc e he
  rcases List.mem_cons.mp he with q | q
  · rw [q]; exact fun z => ha (z ▸ hc)
  · rw [List.mem_singleton.mp q]; exact fun z => hb (z ▸ hc)
theorem nodup_one {as : List Addr} {a : Addr} (n : as.Nodup) (ha : a ∉ as) : (as ++ [a]).Nodup := by
  refine List.nodup_append.mpr ⟨n, by simp, ?_⟩
  intro c hc e he
  rw [List.mem_singleton.mp he]
  exact fun z => ha (z ▸ hc)
/-- an address that is not of the heap is none of a tree's -/
theorem TrAll.fresh {vs : List V} {ds : List PyData} {as : List Addr} {a : Addr} (h : TrAll F vs ds as) (e : Ex F H) (ha : H a = none) : a ∉ as := fun m => by
  obtain ⟨xs, z⟩ := h.has a m
  rw [e _ _ z] at ha
  cases ha
/-- return xs, xs one's own list of trees -/
theorem k_finR {l : Addr} {vs : List V} {ds : List PyData} {as : List Addr} (hQ : ∀ v H' as, Ex H0 H' → Tr (nw F0 H0 H') v (.list ds) as → as.Nodup → (∀ a ∈ as, H0 a = none) → Q v H') (kn : Kn M0 F0 H0 F H) (hl : H l = some (.lst vs)) (hF : F l = none) (h0 : H0 l = none)
    (ht : TrAll F vs ds as) (nd : as.Nodup) (hn : ∀ a ∈ as, H0 a = none) (he : Ev te σ H (.ref l)) (hD : D.rt = Q := by rfl) : tRet te D σ H := he H (Ex.refl H) _ fun H1 e => by
  rw [hD]
  have s := kn.step e
  refine hQ _ H1 (l :: as) s.kn.hh (.lst ?_ (ht.ex (s.ff.trans s.kn.nw))) (List.nodup_cons.mpr ⟨fun m => ?_, nd⟩) fun a m => ?_
  · rw [nw_n h0]
    exact e _ _ hl
  · obtain ⟨xs, z⟩ := ht.has l m
    rw [hF] at z
    cases z
  · rcases List.mem_cons.mp m with q | q
    · rw [q]; exact h0
    · exact hn a q
/-- name = [tree], a list of one's own -/
theorem q_newR {i : Nat} (kn : Kn M F0 H0 F H) (h : EvR te σ F F d) (k : ∀ l v as F1 H1, StpE M F0 H0 F H F1 H1 → F1 l = none → H l = none → H1 l = some (.lst [v]) → Tr F1 v d as → as.Nodup → (∀ a ∈ as, H a = none) → rest D (σ.set i (some (.ref l))) H1) : tSeq (tAsg (tLst (tCons te tNil)) (gName i)) rest D σ H :=
  h H kn.fh _ fun v H1 as e ht hn hf => ⟨(show 1 ≤ sizeLine by decide), fun l hl => by
    have s := kn.step e
    have s2 : StpE M F0 H0 F H (WB.nw F H H1) (upd H1 l (.lst [v])) := ⟨⟨s.kn.upd_ (by rw [nw_n (exdm e l hl), hl]) (s.kn.dm l hl), s.ff, s.hm.trans (ExM.of (Ex.new hl)), s.fr⟩, e.trans (Ex.new hl)⟩
    exact k l v as _ _ s2 (by rw [nw_n (exdm e l hl), hl]) (exdm e l hl) upd_same ht hn hf⟩
/-- n - 1, n - 2, .., 0 -/
def revD (n : Nat) : List PyData := (List.range n).map fun i => PyData.int ((n : Int) - 1 - (i : Nat))
theorem revD_len (n : Nat) : (revD n).length = n := by unfold revD; rw [List.length_map, List.length_range]
theorem revD_get {n i : Nat} (h : i < n) : (revD n)[i]? = some (.int ((n : Int) - 1 - (i : Nat))) := by
  unfold revD
  rw [List.getElem?_map, List.getElem?_range h]
  rfl
theorem itd_rev {n : Nat} : ItD (Itc (0 + (n : Int) - 1) (-1) n) G (revD n) where
  go := fun i H e hi => by rw [revD_len] at hi; exact hi
  yld := fun i H x H' e hi ⟨e1, e2⟩ => by
    subst e1 e2
    rw [revD_len] at hi
    refine ⟨Ex.refl _, fun d hdd => ?_⟩
    rw [revD_get hi] at hdd
    cases hdd
    have z : (0 + (n : Int) - 1 + (i : Nat) * -1) = (n : Int) - 1 - (i : Nat) := by omega
    rw [z]
    exact .int _
  stop := fun i H e hi => by rw [revD_len] at hi; exact hi
theorem wk_rev {n : Nat} (h : EvD te σ F (.int (n : Int))) (hn : n < 2 ^ 62) : WkD (iRevR (tRg1 te)) σ F (revD n) := fun H1 e R q => h H1 e _ fun v H2 e2 hv => by
  cases hv.int_
  refine ⟨n, rfl, by omega, by omega, by omega, by omega, ?_⟩
  have z : ((n : Int) - 0).toNat = n := by omega
  rw [z]
  exact q _ H2 e2 itd_rev
end
end WB
/-! in and index by data; more of lists that are one's own. -/
namespace WB
open PySem PySem.Spec PyProof.Rows L2 Evl
theorem u65 {k : Nat} {A : Around} (r : Room k A) : A.units + 65 < cLine := by have := r.un; omega
section
variable {M : Addr → Prop} {K : PySem.W.Frag} {F0 H0 F H G : Hp} {σ : L2.St} {ta tb te tx : TE} {t u : TT} {d d1 d2 d3 : PyData} {v z : V} {D : Ends} {tu tw rest : TS} {g : TG} {T : Hp → V → Prop} {Q : VK}
theorem d_inD {ds : List PyData} (ha : EvD ta σ F d1) (hb : EvD tb σ F (.list ds)) (p1 : plainD d1 = true) (p2 : plainDs ds = true) (s1 : SeqAt.shaped d1 = true) (s2 : SeqAt.shaped (.list ds) = true) : EvD (tOp (rInD K) ta tb) σ F (.bool (ds.any fun z => PyData.eqv z d1)) :=
  d_op ha hb (opS rfl fun H1 x y hx hy Q q => ⟨d1, ds, hx.dp p1, hy.dp (by unfold plainD; exact p2), s1, s2, q⟩)
theorem d_neg {i : Int} (h : EvD te σ F (.int i)) : EvD (tUn (rU fun i => .int (-i)) te) σ F (.int (-i)) := fun H1 e Q q => h H1 e _ fun x H2 e2 hx => by
  cases hx.int_
  exact ⟨i, rfl, q _ H2 e2 (.int _)⟩
theorem d_idxD {ds : List PyData} {j : Nat} {z : PyData} (ha : EvD ta σ F (.list ds)) (hb : EvD tb σ F d1) (p1 : plainD d1 = true) (p2 : plainDs ds = true) (s1 : SeqAt.shaped d1 = true) (s2 : SeqAt.shaped (.list ds) = true)
    (hz : ds[j]? = some z) (he : PyData.eqv z d1 = true) (hn : ∀ (m : Nat) (z' : PyData), m < j → ds[m]? = some z' → PyData.eqv z' d1 = false) : EvD (tBM K "list" (rIndexD K) ta (tCons tb tNil)) σ F (.int (j : Nat)) := fun H1 e Q q =>
  ha H1 e _ fun x H2 e2 hx => by
    obtain ⟨a, xs, rfl, h1, h2⟩ := hx.list_
    have g1 : H2 a = some (.lst xs) := nw_ex (e.trans e2) _ _ h1
    refine ⟨Or.inl ⟨rfl, xs, sq_of g1⟩, hb H2 (e.trans e2) _ fun y H3 e3 hy => ?_⟩
    have ex3 : Ex (nw F H1 H2) H3 := (nw_ex (e.trans e2)).trans e3
    exact ⟨a, y, d1, ds, j, z, rfl, rfl, (Dt.lst (ex3 _ _ h1) (h2.ex ex3)).dp (by unfold plainD; exact p2), (hy.ex (nw_ex ((e.trans e2).trans e3))).dp p1, s2, s1, hz, he, hn, q _ H3 (e2.trans e3) (.int _)⟩
/-- a, b = xs[i], e; xs one's own -/
theorem q_parO {i j : Nat} {l : Addr} {xs : List V} {n : Int} {v : V} {tc : TE} (kn : Kn M F0 H0 F H) (hl : H l = some (.lst xs)) (ha : Ev ta σ H (.ref l)) (hi : Ev tb σ H (.int n)) (h : atI xs n = some v) (hb : EvD tc σ F d2) (k : ∀ y F1 H1, StpE M F0 H0 F H F1 H1 → Dt F1 y d2 → rest D ((σ.set i (some v)).set j (some y)) H1) :
    tSeq (tPar i j (tCons (tOp (rIxL K) ta tb) (tCons tc tNil))) rest D σ H := ha H (Ex.refl H) _ fun H1 e1 => hi H1 e1 _ fun H2 e2 => ⟨l, xs, n, v, rfl, rfl, SqL.of (e2 _ _ (e1 _ _ hl)), h, hb H2 ((kn.fh.trans e1).trans e2) _ fun y H3 e3 hy => by
    have e := e1.trans e2
    exact ⟨v, y, rfl, k y _ H3 (kn.step (e.trans e3)) (hy.ex (nw_l kn.fh (exdm e)))⟩⟩
/-- return xs, xs one's own list of data -/
theorem k_finL {l : Addr} {vs : List V} {ds : List PyData} (hQ : ∀ v H', Ex H0 H' → Dt (nw F0 H0 H') v (.list ds) → Q v H') (kn : Kn M0 F0 H0 F H) (hl : H l = some (.lst vs)) (hF : F l = none) (h0 : H0 l = none) (ht : DtAll F vs ds) (he : Ev te σ H (.ref l)) (hD : D.rt = Q := by rfl) : tRet te D σ H := he H (Ex.refl H) _ fun H1 e => by
  rw [hD]
  have s := kn.step e
  refine hQ _ H1 s.kn.hh (.lst ?_ (ht.ex (s.ff.trans s.kn.nw)))
  rw [nw_n h0]
  exact e _ _ hl
/-- [e for x in ..] -/
theorem d_lcn {wi : TI} {items rs : List PyData} {vs : List Nat} {j : Nat} (h : WkD wi σ F items) (hz : items.length ≤ 40000) (hl : rs.length = items.length)
    (hs : ∀ (i : Nat) (d r : PyData) (x : V) (F' : Hp), items[i]? = some d → rs[i]? = some r → Ex F F' → Dt F' x d → EvD te ((wipe σ vs).set j (some x)) F' r) (hw : ∀ x, wipe ((wipe σ vs).set j (some x)) vs = wipe σ vs := by intro _; rfl) :
    EvD (tLc wi (gName j) tYes te vs) σ F (.list rs) := d_lcm h hz hl fun i d r x F' H' hi hr e1 e2 hd Q hQ => hQ _ (hw x) (hs i d r x F' hi hr e1 hd)
end
end WB
/-! The stream of draws: a list that is written. -/
namespace WB
open PySem PySem.Spec PyProof.Rows L2 Evl
def Ms (l s : Addr) : Addr → Prop := fun b => b = l ∨ b = s
/-- a stream at l, its cells at s, n draws at most till now -/
def StA (l s : Addr) (n : Nat) (H : Hp) : Prop := ∃ (xs : List Int) (a b c : Int), H l = some (.lst [.ref s, .int a, .int b, .int c]) ∧ H s = some (.lst (xs.map V.int)) ∧ 0 ≤ a ∧ 0 ≤ b ∧ b ≤ n ∧ 0 ≤ c ∧ c < 2147483647
section
variable {l s : Addr} {n : Nat} {F0 H0 F H H1 H2 H3 : Hp} {σ : L2.St} {Q : VK} {ta tb te : TE} {D : Ends} {rest : TS}
theorem StA.ex (st : StA l s n H) (e : Ex H H1) : StA l s n H1 := by
  obtain ⟨xs, a, b, c, h1, h2, h3⟩ := st
  exact ⟨xs, a, b, c, e _ _ h1, e _ _ h2, h3⟩
theorem StA.at_ (st : StA l s n H) (e1 : H1 l = H l) (e2 : H1 s = H s) : StA l s n H1 := by
  obtain ⟨xs, a, b, c, h1, h2, h3⟩ := st
  exact ⟨xs, a, b, c, by rw [e1]; exact h1, by rw [e2]; exact h2, h3⟩
theorem StA.mono {m : Nat} (st : StA l s n H) (h : n ≤ m) : StA l s m H := by
  obtain ⟨xs, a, b, c, h1, h2, h3, h4, h5, h6⟩ := st
  exact ⟨xs, a, b, c, h1, h2, h3, h4, by omega, h6⟩
theorem StA.has (st : StA l s n H) : ∀ a, Ms l s a → H a ≠ none := fun a m => by
  obtain ⟨xs, _, b, c, h1, h2, _⟩ := st
  rcases m with q | q
  · rw [q, h1]; intro z; cases z
  · rw [q, h2]; intro z; cases z
theorem exn_m (e : ExM (Ms l s) H2 H3) (h : ∀ a, Ms l s a → H1 a ≠ none) : ExN H1 H2 H3 := fun a o h1 h2 => e.k a o (fun m => h a m h1) h2
/-- the promise of a def that draws: k the most draws -/
def SpM {α : Type} (k : α → Nat) (args : α → Hp → List V → Prop) (res : α → Hp → V → Prop) : Sp := fun vs H Q _ => ∃ (F : Hp) (x : α) (l s : Addr) (n : Nat) (r : List V), vs = .ref l :: r ∧ Ex F H ∧ F l = none ∧ F s = none ∧ StA l s n H ∧ n + k x ≤ 1000000 ∧ args x F r ∧
  ∀ v H', ExM (Ms l s) H H' → StA l s (n + k x) H' → res x (nw F H H') v → Q v H'
theorem wm_call {α : Type} {k : α → Nat} {args : α → Hp → List V → Prop} {res : α → Hp → V → Prop} {E : XK} {tl : TA} {i : Nat} (x : α) (kn : Kn (Ms l s) F0 H0 F H) (st : StA l s n H) (hn : n + k x ≤ 1000000) (hi : σ[i]? = some (some (.ref l))) (h : EvPA tl σ F (args x)) (mo : Mo (res x))
    (k' : ∀ v F1 H1, Stp (Ms l s) F0 H0 F H F1 H1 → StA l s (n + k x) H1 → res x F1 v → Q v H1) : tCall (SpM k args res) [] E (tCons (tVar i) tl) σ H Q := by
  refine ⟨.ref l, hi, h H kn.fh _ fun xs H2 e2 hx => ?_⟩
  show SpM k args res ((.ref l :: xs) ++ []) H2 Q E
  rw [List.append_nil]
  have st2 := st.ex e2
  have hl : F l = none := kn.md l (.inl rfl)
  have hs : F s = none := kn.md s (.inr rfl)
  have nl : ∀ a, Ms l s a → nw F H H2 a = none := fun a m => by
    cases z : H a with
    | none => exact absurd z (st.has a m)
    | some o => rw [nw_s z]; exact kn.md a m
  refine ⟨nw F H H2, x, l, s, n, xs, rfl, nw_ex (kn.fh.trans e2), nl l (.inl rfl), nl s (.inr rfl), st2, hn, hx, fun v H3 e3 st3 hv => k' v _ H3 (kn.stepM ((ExM.of e2).trans e3)) st3 (mo _ _ _ (fun a o ha => ?_) hv)⟩
  cases z : H2 a with
  | none =>
    rw [nw_n z] at ha
    rw [nw_n (exdm e2 a z)]
    exact ha
  | some u =>
    rw [nw_s z] at ha
    exact nw_r (exn_m e3 st.has) a o ha
/-- unfoldings -/
theorem wp_op {r : R2} (h : ta σ H fun x H1 => tb σ H1 fun y H2 => r x y H2 Q) : tOp r ta tb σ H Q := h
theorem wp_asg {i : Nat} (h : ta σ H fun v H1 => rest D (σ.set i (some v)) H1) : tSeq (tAsg ta (gName i)) rest D σ H := h
theorem wp_ret (h : ta σ H D.rt) : tRet ta D σ H := h
/-- [e for j in range(m)], e may write -/
theorem lc_turns {M M2 : Addr → Prop} {m : Nat} {vs : List Nat} {j : Nat} (kn : Kn M F0 H0 F H) (hm : m ≤ 40000) (I : Nat → List V → Hp → Hp → Prop) (hM2 : ∀ a, M2 a → H a ≠ none)
    (h0 : I 0 [] F H) (hI : ∀ i acc F' H' H'', I i acc F' H' → (∀ a, H a ≠ none → H'' a = H' a) → I i acc F' H'')
    (hs : ∀ i acc F' H', i < m → acc.length = i → Kn M F0 H0 F' H' → Ex F F' → ExM M2 H H' → I i acc F' H' → ∀ Q' : VK, (∀ v F2 H2, Kn M F0 H0 F2 H2 → Ex F' F2 → ExM M2 H' H2 → (∀ a o, H' a = some o → F' a = none → F2 a = none) → I (i + 1) (acc ++ [v]) F2 H2 → Q' v H2) → te ((wipe σ vs).set j (some (.int (0 + (i : Nat))))) H' Q')
    (hD : ∀ D acc F' H', Kn M F0 H0 F' H' → Ex F F' → ExM M2 H H' → (∀ a o, H a = some o → F a = none → F' a = none) → acc.length = m → I m acc F' H' → H' D = some (.lst acc) → F' D = none → H D = none → Q (.ref D) H')
    (hw : ∀ x, wipe ((wipe σ vs).set j (some x)) vs = wipe σ vs := by intro _; rfl) :
    ∀ D, H D = none → ∃ W : Nat → Nat → Hp → Prop, (∃ m, W 0 m (upd H D (.lst []))) ∧ ∀ i k H, W i k H →
      ((Itr 0 m).stop i H ∧ Q (.ref D) H) ∨ ((Itr 0 m).go i H ∧ ∃ Nx : Hp → Prop, (∀ H', Nx H' → ∃ m', m' < k ∧ W (i + 1) m' H') ∧ ∀ x H', (Itr 0 m).yld i H x H' → (gName j) x (wipe σ vs) H' fun σ2 H2 => wipe σ2 vs = wipe σ vs ∧ tYes σ2 H2 fun b H3 =>
        if b = true then te σ2 H3 fun y H4 => ∃ acc, H4 D = some (.lst acc) ∧ acc.length < sizeLine ∧ Nx (upd H4 D (.lst (acc ++ [y]))) else Nx H3) := fun D hDn => by
  have hFD : F D = none := by
    cases z : F D with
    | none => rfl
    | some o => rw [kn.fh _ _ z] at hDn; cases hDn
  have nM2 : ¬ M2 D := fun z => hM2 D z hDn
  refine ⟨fun i k H' => k = m - i ∧ i ≤ m ∧ ∃ F' acc, Kn M F0 H0 F' H' ∧ Ex F F' ∧ ExM M2 H H' ∧ (∀ a o, H a = some o → F a = none → F' a = none) ∧ H' D = some (.lst acc) ∧ F' D = none ∧ acc.length = i ∧ I i acc F' H', ⟨m, by simp, Nat.zero_le _, F, [], kn.upd_ hFD (kn.dm D hDn), Ex.refl _, ExM.of (Ex.new hDn), fun _ _ _ h => h, upd_same, hFD, rfl, hI 0 [] F H _ h0 fun a ha => upd_ne fun z => ha (by rw [z]; exact hDn)⟩, ?_⟩
  rintro i k H' ⟨rfl, hi, F', acc, kn', e', em, fr', hacc, hF', hl, hI'⟩
  by_cases hlt : i < m
  · refine .inr ⟨hlt, fun H2 => ∃ F2 acc, Kn M F0 H0 F2 H2 ∧ Ex F F2 ∧ ExM M2 H H2 ∧ (∀ a o, H a = some o → F a = none → F2 a = none) ∧ H2 D = some (.lst acc) ∧ F2 D = none ∧ acc.length = i + 1 ∧ I (i + 1) acc F2 H2, fun H2 p2 => ⟨m - (i + 1), by omega, rfl, hlt, p2⟩, fun x Hn y => ?_⟩
    obtain ⟨rfl, rfl⟩ := y
    refine ⟨hw _, ?_⟩
    show te _ _ _
    refine hs i acc F' _ hlt hl kn' e' em hI' _ fun v F2 H2 k2 e2 m2 fr2 i2 => ?_
    have hD2 := m2.k D _ nM2 hacc
    have f2 := fr2 D _ hacc hF'
    refine ⟨acc, hD2, by rw [hl]; exact sz_lt (by omega), F2, acc ++ [v], k2.upd_ f2 (kn.dm D hDn), e'.trans e2, ⟨fun a o nm h => ?_, (em.trans m2).d.trans fun a h => ?_⟩, fun a o ha hf => ?_, upd_same, f2, by simp [hl], hI _ _ _ _ _ i2 fun a ha => upd_ne fun z => ha (by rw [z]; exact hDn)⟩
    · rw [upd_ne fun z => by rw [z, hDn] at h; cases h]
      exact (em.trans m2).k a o nm h
    · by_cases z : a = D
      · rw [z, upd_same] at h; cases h
      · rw [upd_ne z] at h; exact h
    · cases q : Hn a with
      | none => rw [em.d a q] at ha; cases ha
      | some o' => exact fr2 a o' q (fr' a o ha hf)
  · have ei : i = m := by omega
    subst ei
    exact .inl ⟨Nat.le_refl _, hD D acc F' H' kn' e' em fr' hl hI' hacc hF' hDn⟩
end
end WB
/-! Readings by several kinds; list of a text; own lists beside a stream. -/
namespace WB
open PySem PySem.Spec PyProof.Rows L2 Evl
section
variable {X : Cx}
def rIxA (K : PySem.W.Frag) : R2 := fun x y H Q => rIxL K x y H Q ∨ rIxT K x y H Q ∨ rIxS x y H Q
theorem ix_any : IxR X (rIxA X.K) := by
  intro value slice pins s σ H x y v u Q I rx ry h hs
  rcases h with h | h | h
  · exact ix_list value slice pins s σ H x y v u Q I rx ry h hs
  · exact ix_tup value slice pins s σ H x y v u Q I rx ry h hs
  · exact ix_str value slice pins s σ H x y v u Q I rx ry h hs
def rLenA (K : PySem.W.Frag) : List V → Hp → VK → Prop := fun xs H Q => rLenQ K xs H Q ∨ rLenSQ xs H Q
theorem call_len_any : CallR X (.builtin "len") (rLenA X.K) := by
  intro pins s σ H xs us Q I rs q
  rcases q with q | q
  · exact call_len_seq pins s σ H xs us Q I rs q
  · exact call_len_str pins s σ H xs us Q I rs q
/-- the letters of a text, each a text -/
def letsV (z : Str) : List V := z.cps.toList.map fun c => V.str ⟨#[c]⟩
def letsD (z : Str) : List PyData := z.cps.toList.map fun c => PyData.str ⟨#[c]⟩
def rListS : List V → Hp → VK → Prop := fun xs H Q => ∃ z : Str, xs = [.str z] ∧ z.length ≤ sizeLine ∧ ∀ l, H l = none → Q (.ref l) (upd H l (.lst (letsV z)))
theorem call_list_txt (hc : X.calm = true) : CallR X (.type "list") rListS := by
  intro pins s σ H xs us Q I r h
  obtain ⟨z, rfl, hz, q⟩ := h
  obtain ⟨u, rfl, rx⟩ := vals1 r
  obtain ⟨t, rfl⟩ := rx
  refine call_list_str (I.ok.hd hc) z t (fun h' tk acc c' hk e' hi => ?_) hz
  have rv : Vals (letsV z) acc.toList := by
    refine vals_of_at ?_ fun j x u hx hu => ?_
    · unfold letsV
      rw [List.length_map, Array.length_toList, Array.length_toList]
      exact hi.1.symm
    · obtain ⟨c, t', e1, rfl⟩ := hi.2 j u (by rw [← hu, Array.getElem?_toList])
      unfold letsV at hx
      rw [List.getElem?_map, Array.getElem?_toList, e1] at hx
      cases hx
      exact ⟨t', rfl⟩
  refine ⟨.ref s.heap.objs.size, upd H s.heap.objs.size (.lst (letsV z)), I.laid hk (Nat.le_refl _) (show ObjOk X.prog X.w _ _ _ (.lst (letsV z)) from ⟨?_, acc.toList, c', rv, ?_⟩), rfl, q _ (I.hok.fresh (Nat.le_refl _))⟩
  · unfold letsV
    rw [List.length_map, Array.length_toList]
    exact hz
  · rw [Array.toArray_toList]; exact e'
end
theorem lets_dt {H : Hp} (z : Str) : DtAll H (letsV z) (letsD z) := by
  unfold letsV letsD
  have k : ∀ cs : List Nat, DtAll H (cs.map fun c => V.str ⟨#[c]⟩) (cs.map fun c => PyData.str ⟨#[c]⟩) := fun cs => by
    induction cs with
    | nil => exact .nil
    | cons c cs ih => exact .cons (.str _) ih
  exact k _
section
variable {l s : Addr} {n N : Nat} {K : PySem.W.Frag} {F0 H0 F H H1 H2 H3 : Hp} {σ : L2.St} {Q : VK} {ta tb te : TE} {D : Ends} {rest : TS} {T : Hp → V → Prop}
theorem kM_done (hQ : ∀ v H', ExM (Ms l s) H0 H' → StA l s N H' → T (nw F0 H0 H') v → Q v H') (mo : Mo T) (kn : Kn (Ms l s) F0 H0 F H) (st : StA l s N H) {v : V} (hv : T F v) : Q v H := hQ v H ⟨kn.h, kn.dm⟩ st (mo _ _ _ kn.nw hv)
theorem kM_fin (hQ : ∀ v H', ExM (Ms l s) H0 H' → StA l s N H' → T (nw F0 H0 H') v → Q v H') (mo : Mo T) (kn : Kn (Ms l s) F0 H0 F H) (st : StA l s N H) (h : EvP te σ F T) (hD : D.rt = Q := by rfl) : tRet te D σ H := kp_ev kn h _ fun v F1 H1 s1 hv => by
  rw [hD]
  exact kM_done hQ mo s1.kn (st.ex s1.ex) hv
theorem Kn.startS {F0 H0 : Hp} (e : Ex F0 H0) (fl : F0 l = none) (fs : F0 s = none) (st : StA l s n H0) : Kn (Ms l s) F0 H0 F0 H0 := Kn.startM e (fun a m => by
  rcases m with q | q
  · rw [q]; exact fl
  · rw [q]; exact fs) st.has
theorem w_da {G : Hp} {ta : TA} {ds : List PyData} {Q : List V → Hp → Prop} (h : EvDA ta σ G ds) (e : Ex G H) (k : ∀ vs H2, Ex H H2 → DtAll (nw G H H2) vs ds → Q vs H2) : ta σ H Q := h H e Q k
theorem w_d {G : Hp} {d : PyData} (h : EvD te σ G d) (e : Ex G H) (k : ∀ v H2, Ex H H2 → Dt (nw G H H2) v d → Q v H2) : te σ H Q := h H e Q k
theorem wp_rng1 {ta : TA} {R : It → Hp → Prop} (h : ta σ H fun vs H1 => ∃ j : Int, vs = [.int j] ∧ -(2 ^ 62) ≤ j ∧ j < 2 ^ 62 ∧ R (Itr 0 j.toNat) H1) : iRng1 ta σ H R := h
theorem wp_cons {ta : TA} {Q : List V → Hp → Prop} (h : te σ H fun x H1 => ta σ H1 fun xs H2 => Q (x :: xs) H2) : tCons te ta σ H Q := h
theorem wp_lc {wi : TI} {g : TG} {tt : TT} {vs : List Nat} (h : wi σ H fun J H1 => ∀ D, H1 D = none → ∃ W : Nat → Nat → Hp → Prop, (∃ m, W 0 m (upd H1 D (.lst []))) ∧ ∀ i m H, W i m H →
  (J.stop i H ∧ Q (.ref D) H) ∨ (J.go i H ∧ ∃ Nx : Hp → Prop, (∀ H', Nx H' → ∃ m', m' < m ∧ W (i + 1) m' H') ∧ ∀ x H', J.yld i H x H' → g x (wipe σ vs) H' fun σ2 H2 => wipe σ2 vs = wipe σ vs ∧ tt σ2 H2 fun b H3 =>
    if b = true then te σ2 H3 fun y H4 => ∃ acc, H4 D = some (.lst acc) ∧ acc.length < sizeLine ∧ Nx (upd H4 D (.lst (acc ++ [y]))) else Nx H3)) : tLc wi g tt te vs σ H Q := h
/-- one argument, read over G, that says nothing of the heap -/
theorem wm_call1 {α : Type} {G : Hp} {d : PyData} {k : α → Nat} {args : α → Hp → List V → Prop} {res : α → Hp → V → Prop} {E : XK} {i : Nat} (x : α) (kn : Kn (Ms l s) F0 H0 F H) (st : StA l s n H) (hn : n + k x ≤ 1000000) (hi : σ[i]? = some (some (.ref l))) (eG : Ex G H) (h : EvD te σ G d) (ha : ∀ H v, Dt H v d → ∀ F, args x F [v]) (mo : Mo (res x))
    (k' : ∀ v F1 H1, Stp (Ms l s) F0 H0 F H F1 H1 → StA l s (n + k x) H1 → res x F1 v → Q v H1) : tCall (SpM k args res) [] E (tCons (tVar i) (tCons te tNil)) σ H Q := by
  refine ⟨.ref l, hi, h H eG _ fun v H2 e2 hv => ?_⟩
  show SpM k args res ((.ref l :: [v]) ++ []) H2 Q E
  rw [List.append_nil]
  have s2 := kn.step e2
  refine ⟨nw F H H2, x, l, s, n, [v], rfl, s2.kn.fh, s2.kn.md l (.inl rfl), s2.kn.md s (.inr rfl), st.ex e2, hn, ha _ v hv _, fun u H3 e3 st3 hu => ?_⟩
  have s3 := s2.kn.stepM e3
  exact k' u _ H3 (s2.toStp.trans s3) st3 hu
end
end WB
/-! Loops and tests that draw. -/
namespace WB
open PySem PySem.Spec PyProof.Rows L2 Evl
section
variable {M : Addr → Prop} {K : PySem.W.Frag} {F0 H0 F H G : Hp} {σ : L2.St} {ta tb te tx : TE} {t u : TT} {d d1 d2 d3 : PyData} {v z : V} {D : Ends} {tu tw rest : TS} {g : TG} {T : Hp → V → Prop} {Q : VK}
/-- for j in range(m), from where the range stands -/
theorem for_turns {m : Nat} (kn : Kn M F0 H0 F H) (I : Nat → L2.St → Hp → Hp → Prop) (h0 : I 0 σ F H)
    (hs : ∀ i σ' F' H', i < m → Kn M F0 H0 F' H' → Ex F F' → I i σ' F' H' → ∀ N : L2.St → Hp → Prop, (∀ σ2 F2 H2, Kn M F0 H0 F2 H2 → Ex F' F2 → I (i + 1) σ2 F2 H2 → N σ2 H2) → g (.int (0 + (i : Nat))) σ' H' fun σ2 H2 => tu { D with nx := N, ct := N, bk := D.nx } σ2 H2)
    (hd : ∀ σ' F' H', Kn M F0 H0 F' H' → Ex F F' → I m σ' F' H' → D.nx σ' H') :
    ∃ W : Nat → Nat → L2.St → Hp → Prop, (∃ m, W 0 m σ H) ∧ ∀ i k σ H, W i k σ H →
      ((Itr 0 m).stop i H ∧ D.nx σ H) ∨ ((Itr 0 m).go i H ∧ ∃ N : L2.St → Hp → Prop, (∀ σ' H', N σ' H' → ∃ m', m' < k ∧ W (i + 1) m' σ' H') ∧ ∀ x H', (Itr 0 m).yld i H x H' → g x σ H' fun σ2 H2 => tu { D with nx := N, ct := N, bk := D.nx } σ2 H2) := by
  refine ⟨fun i k σ' H' => k = m - i ∧ i ≤ m ∧ ∃ F', Kn M F0 H0 F' H' ∧ Ex F F' ∧ I i σ' F' H', ⟨m, by simp, Nat.zero_le _, F, kn, Ex.refl _, h0⟩, ?_⟩
  rintro i k σ' H' ⟨rfl, hi, F', kn', e', p⟩
  by_cases hlt : i < m
  · refine .inr ⟨hlt, fun σ2 H2 => ∃ F2, Kn M F0 H0 F2 H2 ∧ Ex F F2 ∧ I (i + 1) σ2 F2 H2, fun σ2 H2 ⟨F2, k2, e2, p2⟩ => ⟨m - (i + 1), by omega, rfl, hlt, F2, k2, e2, p2⟩, fun x H2 y => ?_⟩
    obtain ⟨rfl, rfl⟩ := y
    exact hs i σ' F' _ hlt kn' e' p _ fun σ3 F3 H3 k3 e3 p3 => ⟨F3, k3, e'.trans e3, p3⟩
  · have ei : i = m := by omega
    subst ei
    exact .inl ⟨Nat.le_refl _, hd σ' F' H' kn' e' p⟩
theorem wp_for {wi : TI} (h : wi σ H fun J H1 => ∃ W : Nat → Nat → L2.St → Hp → Prop, (∃ m, W 0 m σ H1) ∧ ∀ i m σ H, W i m σ H →
  (J.stop i H ∧ rest D σ H) ∨ (J.go i H ∧ ∃ N : L2.St → Hp → Prop, (∀ σ' H', N σ' H' → ∃ m', m' < m ∧ W (i + 1) m' σ' H') ∧ ∀ x H', J.yld i H x H' → g x σ H' fun σ2 H2 => tu { D with nx := N, ct := N, bk := rest D } σ2 H2)) : tSeq (tFor wi g tu) rest D σ H := h
theorem wp_if (h : t σ H fun b H1 => if b = true then tu { D with nx := rest D } σ H1 else tw { D with nx := rest D } σ H1) : tSeq (tIfS t tu tw) rest D σ H := h
theorem wp_ifE (h : t σ H fun b H1 => if b = true then tu D σ H1 else tw D σ H1) : tIfS t tu tw D σ H := h
theorem wp_and {Q : Bool → Hp → Prop} (h : t σ H fun c H1 => if c = true then u σ H1 Q else Q false H1) : tAnd t u σ H Q := h
theorem wp_or {Q : Bool → Hp → Prop} (h : t σ H fun c H1 => if c = true then Q true H1 else u σ H1 Q) : tOr t u σ H Q := h
theorem wp_test {Q : Bool → Hp → Prop} (h : te σ H fun x H1 => ∃ c, x = .bl c ∧ Q c H1) : tTest te σ H Q := h
theorem wp_t {b : Bool} {Q : Bool → Hp → Prop} (h : EvT t σ G b) (e : Ex G H) (k : ∀ H2, Ex H H2 → Q b H2) : t σ H Q := h H e Q k
theorem wp_par {i j : Nat} {ta : TA} (h : ta σ H fun vs H1 => ∃ v w, vs = [v, w] ∧ rest D ((σ.set i (some v)).set j (some w)) H1) : tSeq (tPar i j ta) rest D σ H := h
theorem wp_sl {r : V → Option Int → Option Int → Hp → VK → Prop} {tl th : TO} (h : te σ H fun x H1 => tl σ H1 fun l H2 => th σ H2 fun u H3 => r x l u H3 Q) : tSl r te tl th σ H Q := h
theorem wp_part {Q : Option Int → Hp → Prop} (h : te σ H fun x H1 => ∃ i, x = .int i ∧ Q (some i) H1) : tPart te σ H Q := h
theorem wp_nopart {Q : Option Int → Hp → Prop} (h : Q none H) : tNoPart σ H Q := h
theorem wp_nil {Q : List V → Hp → Prop} (h : Q [] H) : tNil σ H Q := h
/-- xs.append(xs[j]) and such: the value is known -/
theorem k_appV {l : Addr} {xs : List V} (kn : Kn M F0 H0 F H) (hl : H l = some (.lst xs)) (hF : F l = none) (h0 : H0 l = none) (ha : Ev ta σ H (.ref l)) (h : Ev te σ H v) (hz : xs.length < 100000)
    (k : ∀ F1 H1, Kn M F0 H0 F1 H1 → Ex F F1 → F1 l = none → H1 l = some (.lst (xs ++ [v])) → (∀ a o, a ≠ l → H a = some o → H1 a = some o) → (∀ a o, H a = some o → F a = none → F1 a = none) → D.nx σ H1) :
    tDrop (tBM K "list" rAppend ta (tCons te tNil)) D σ H := ha H (Ex.refl H) _ fun H1 e1 =>
  ⟨Or.inl ⟨rfl, xs, sq_of (e1 l _ hl)⟩, h H1 e1 _ fun H2 e2 => ⟨l, xs, v, rfl, rfl, e2 l _ (e1 l _ hl), sz_lt hz, by
    have s := kn.step (e1.trans e2)
    have n := s.fr l _ hl hF
    exact k _ _ (s.kn.upd_ n h0) s.ff n upd_same (fun a o ne h => by rw [upd_ne ne]; exact e2 a o (e1 a o h)) s.fr⟩⟩
theorem wp_c {v : V} (h : Q v H) : tC v σ H Q := h
theorem kn_new {p : Addr} {o : HO} (kn : Kn M F0 H0 F H) (hp : H p = none) : Kn M F0 H0 (upd F p o) (upd H p o) := by
  have hF : F p = none := by
    cases q : F p with
    | none => rfl
    | some o => rw [kn.fh _ _ q] at hp; cases hp
  exact (kn.upd_ hF (kn.dm p hp)).know hF (kn.dm p hp) upd_same
theorem kn_own {p : Addr} {o : HO} (kn : Kn M F0 H0 F H) (hp : H p = none) : Kn M F0 H0 F (upd H p o) ∧ F p = none := by
  have hF : F p = none := by
    cases q : F p with
    | none => rfl
    | some o => rw [kn.fh _ _ q] at hp; cases hp
  exact ⟨kn.upd_ hF (kn.dm p hp), hF⟩
theorem know_ex {p : Addr} {o : HO} (kn : Kn M F0 H0 F H) (hp : H p = none) : Ex F (upd F p o) := fun a u h => by
  rw [upd_ne (fun z => by rw [z] at h; rw [kn.fh _ _ h] at hp; cases hp)]
  exact h
theorem wp_tup {ta : TA} (h : ta σ H fun xs H1 => xs.length ≤ sizeLine ∧ ∀ p, H1 p = none → Q (.ref p) (upd H1 p (.tup xs))) : tTup ta σ H Q := h
theorem wp_asgG (h : ta σ H fun v H1 => g v σ H1 (rest D)) : tSeq (tAsg ta g) rest D σ H := h
/-- a, b = the tuple just made -/
theorem g_two {i j : Nat} {p : Addr} {x y : V} {N : L2.St → Hp → Prop} (h : N ((σ.set i (some x)).set j (some y)) (upd H p (.tup [x, y]))) : gTup K 2 (gCons (gName i) (gCons (gName j) gNil)) (.ref p) σ (upd H p (.tup [x, y])) N :=
  ⟨p, _, rfl, SqT.of upd_same, rfl, x, [y], rfl, y, [], rfl, rfl, h⟩
theorem StA.keep {l s q : Addr} {n : Nat} {H1 : Hp} (st : StA l s n H) (ql : q ≠ l) (qs : q ≠ s) (o : ∀ a o, a ≠ q → H a = some o → H1 a = some o) : StA l s n H1 := by
  obtain ⟨xs, a, b, c, h1, h2, h3⟩ := st
  exact ⟨xs, a, b, c, o _ _ (Ne.symm ql) h1, o _ _ (Ne.symm qs) h2, h3⟩
/-- (e, e) of scalars, read over G: new, all known -/
theorem d_tupS {x y : V} (ha : EvD ta σ G d1) (hb : EvD tb σ G d2) (h1 : sc d1 = some x) (h2 : sc d2 = some y) : ∀ H1, Ex G H1 → ∀ Q : VK, (∀ v H2, Ex H1 H2 → Dt (nw F H1 H2) v (.tuple [d1, d2]) → Q v H2) → tTup (tCons ta (tCons tb tNil)) σ H1 Q := fun H1 e Q q =>
  ha H1 e _ fun x' H2 e2 hx => hb H2 (e.trans e2) _ fun y' H3 e3 hy => ⟨(show 2 ≤ sizeLine by decide), fun p hp => by
    cases dt_sc hx h1
    cases dt_sc hy h2
    exact q _ _ ((e2.trans e3).trans (Ex.new hp)) (.tup (by rw [nw_n (exdm (e2.trans e3) p hp), upd_same]) (.cons (sc_dt h1) (.cons (sc_dt h2) .nil)))⟩
/-- xs.append(e), e read over G, all new -/
theorem k_appG {l : Addr} {xs : List V} (kn : Kn M F0 H0 F H) (hl : H l = some (.lst xs)) (hF : F l = none) (h0 : H0 l = none) (ha : Ev ta σ H (.ref l)) (eG : Ex G H) (h : ∀ H1, Ex G H1 → ∀ Q : VK, (∀ v H2, Ex H1 H2 → Dt (nw F H1 H2) v d → Q v H2) → te σ H1 Q) (hz : xs.length < 100000)
    (k : ∀ v F1 H1, Kn M F0 H0 F1 H1 → Ex F F1 → F1 l = none → Dt F1 v d → H1 l = some (.lst (xs ++ [v])) → (∀ a o, a ≠ l → H a = some o → H1 a = some o) → (∀ a o, H a = some o → F a = none → F1 a = none) → D.nx σ H1) :
    tDrop (tBM K "list" rAppend ta (tCons te tNil)) D σ H := ha H (Ex.refl H) _ fun H1 e1 =>
  ⟨Or.inl ⟨rfl, xs, sq_of (e1 l _ hl)⟩, h H1 (eG.trans e1) _ fun v H2 e2 hv => ⟨l, xs, v, rfl, rfl, e2 l _ (e1 l _ hl), sz_lt hz, by
    have s := kn.step (e1.trans e2)
    have n := s.fr l _ hl hF
    refine k v _ _ (s.kn.upd_ n h0) s.ff n (hv.ex (nw_l kn.fh (exdm e1))) upd_same (fun a o ne h => by rw [upd_ne ne]; exact e2 a o (e1 a o h)) s.fr⟩⟩
theorem for_turnsQ {m : Nat} (kn : Kn M F0 H0 F H) (I : Nat → L2.St → Hp → Hp → Prop) (h0 : I 0 σ F H)
    (hs : ∀ i σ' F' H', i < m → Kn M F0 H0 F' H' → Ex F F' → I i σ' F' H' → ∀ N : L2.St → Hp → Prop, (∀ σ2 F2 H2, Kn M F0 H0 F2 H2 → Ex F' F2 → I (i + 1) σ2 F2 H2 → N σ2 H2) → g (.int (0 + (i : Nat))) σ' H' fun σ2 H2 => tu { D with nx := N, ct := N, bk := rest D } σ2 H2)
    (hd : ∀ σ' F' H', Kn M F0 H0 F' H' → Ex F F' → I m σ' F' H' → rest D σ' H') :
    ∃ W : Nat → Nat → L2.St → Hp → Prop, (∃ m, W 0 m σ H) ∧ ∀ i k σ H, W i k σ H →
      ((Itr 0 m).stop i H ∧ rest D σ H) ∨ ((Itr 0 m).go i H ∧ ∃ N : L2.St → Hp → Prop, (∀ σ' H', N σ' H' → ∃ m', m' < k ∧ W (i + 1) m' σ' H') ∧ ∀ x H', (Itr 0 m).yld i H x H' → g x σ H' fun σ2 H2 => tu { D with nx := N, ct := N, bk := rest D } σ2 H2) := for_turns (D := { D with nx := rest D }) kn I h0 hs hd
end
end WB
/-! extend; filters. -/
namespace WB
open PySem PySem.Spec PyProof.Rows L2 Evl
theorem range_filter_map {α : Type} (f : α → PyData) (b : Nat → Bool) (c : α → Bool) (r : Nat → PyData) (xs : List α) (h : ∀ i x, xs[i]? = some x → b i = c x ∧ r i = f x) : ((List.range xs.length).filter b).map r = (xs.filter c).map f := by
  have k : ∀ n, n ≤ xs.length → ((List.range n).filter b).map r = ((xs.take n).filter c).map f := by
    intro n
    induction n with
    | zero => intro _; rfl
    | succ n ih =>
      intro hn
      have hx : xs[n]? = some xs[n] := List.getElem?_eq_getElem (by omega)
      have hb := h n _ hx
      generalize xs[n] = x at hx hb
      rw [List.range_succ, List.filter_append, List.map_append, ih (by omega), List.take_add_one, hx, List.filter_append, List.map_append]
      congr 1
      show ((List.filter b [n]).map r) = ((List.filter c [x]).map f)
      cases q : c x with
      | true => rw [List.filter_cons, List.filter_cons, hb.1, q, if_pos rfl, if_pos rfl]; show [r n] = [f x]; rw [hb.2]
      | false => rw [List.filter_cons, List.filter_cons, hb.1, q, if_neg (by decide), if_neg (by decide)]; rfl
  have z := k xs.length (Nat.le_refl _)
  rw [List.take_of_length_le (Nat.le_refl _)] at z
  exact z
section
variable {M : Addr → Prop} {K : PySem.W.Frag} {F0 H0 F H G : Hp} {σ : L2.St} {ta tb te tx : TE} {d d1 d2 d3 : PyData} {v z : V} {D : Ends} {tu tw rest : TS}
/-- xs.extend(list) -/
theorem k_ext {l : Addr} {xs : List V} {ds : List PyData} (kn : Kn M F0 H0 F H) (hl : H l = some (.lst xs)) (hF : F l = none) (h0 : H0 l = none) (ha : Ev ta σ H (.ref l)) (h : EvD te σ F (.list ds)) (hz : xs.length + ds.length ≤ 100000)
    (k : ∀ zs F1 H1, Kn M F0 H0 F1 H1 → Ex F F1 → F1 l = none → DtAll F1 zs ds → H1 l = some (.lst (xs ++ zs)) → (∀ a o, a ≠ l → H a = some o → H1 a = some o) → (∀ a o, H a = some o → F a = none → F1 a = none) → D.nx σ H1) :
    tDrop (tBM K "list" rExtend ta (tCons te tNil)) D σ H := ha H (Ex.refl H) _ fun H1 e1 =>
  ⟨Or.inl ⟨rfl, xs, sq_of (e1 l _ hl)⟩, h H1 (kn.fh.trans e1) _ fun v H2 e2 hv => by
    obtain ⟨b, zs, rfl, h1, h2⟩ := hv.list_
    have s := kn.step (e1.trans e2)
    have n := s.fr l _ hl hF
    have up := nw_l (H3 := H2) kn.fh (exdm e1)
    exact ⟨l, b, xs, zs, rfl, rfl, e2 l _ (e1 l _ hl), s.kn.fh _ _ (up _ _ h1), by rw [h2.len]; exact sz_of hz, k zs _ _ (s.kn.upd_ n h0) s.ff n (h2.ex up) upd_same (fun a o ne h => by rw [upd_ne ne]; exact e2 a o (e1 a o h)) s.fr⟩⟩
end
end WB
/-! What is never reached; walks of lists and tuples alike; list.count of data; trees that were spoilt. -/
namespace WB
open PySem PySem.Spec PyProof.Rows L2 Evl
section
variable {X : Cx}
theorem pss_dead {b : List Stmt} : PSs X b (fun _ _ _ => False) := ⟨fun _ _ _ _ _ _ h => h.elim⟩
theorem pe_never {e : Expr} : PE X e (fun _ _ _ => False) := ⟨fun _ _ _ _ _ _ h => h.elim⟩
theorem pi_or {tg it : Expr} {w1 w2 : TI} (h1 : PI X tg it w1) (h2 : PI X tg it w2) : PI X tg it (fun σ H R => w1 σ H R ∨ w2 σ H R) := ⟨fun pins s σ H R I h => by
  rcases h with h | h
  · exact h1.run pins s σ H R I h
  · exact h2.run pins s σ H R I h⟩
def iAny (K : PySem.W.Frag) (tl : TE) : TI := fun σ H R => iList K tl σ H R ∨ iTup K tl σ H R
theorem pi_anyK {K : PySem.W.Frag} {tg l : Expr} {tl : TE} (hK : X.K = K) (hl : PE X l tl) : PI X tg l (iAny K tl) := by
  subst hK
  exact pi_or (pi_list hl) (pi_tup hl)
/-- l.count(x) of data -/
def rCountD (K : PySem.W.Frag) : V → List V → Hp → VK → Prop := fun x xs H Q => ∃ (a : Addr) (y : V) (d : PyData) (ds : List PyData), x = V.ref a ∧ xs = [y] ∧ Dp K H (V.ref a) (.list ds) ∧ Dp K H y d ∧
  SeqAt.shaped (.list ds) = true ∧ SeqAt.shaped d = true ∧ Q (.int (ds.countP (fun z => PyData.eqv z d) : Nat)) H
theorem mt_countD (hu : X.A.units + 65 < cLine) : MtR X "list.count" (rCountD X.K) := by
  intro pins s σ H x xs v us Q I rx rxs h
  obtain ⟨a, y, d, ds, rfl, rfl, hl, hy, sl, sd, q⟩ := h
  cases rx
  obtain ⟨uy, rfl, ry⟩ := rxs.one
  obtain ⟨bs, r1⟩ := Dp.reads I d y uy hy ry
  have hxs : PyData.canLayAll0 ds = true := SeqAt.canLay_of_shaped sl
  have hroom : X.A.units + 1 + min (PyData.depthAll ds) d.depth < cLine := room_in_shaped sd hu
  cases hl with
  | lst hs ha =>
    obtain ⟨its, rv, ⟨⟨cls, dd, data, sls⟩, n, ho, hc, hdn, hdt⟩, hlen⟩ := I.list hs
    simp only at hc hdt
    subst hc hdt
    obtain ⟨as, h4⟩ := Dp.readsAll I ds _ its ha rv
    have hmap : its.map (SeqAt.readOf s.heap) = ds := SeqAt.readsAll_map ds its as hxs h4
    have ec : its.toArray.toList.countP (fun u => PyData.eqv (SeqAt.readOf s.heap u) d) = ds.countP (fun z => PyData.eqv z d) := by
      rw [← hmap, List.countP_map]
      rfl
    refine call_meets PySem.F.slot_list_count ⟨_, ho, rfl⟩ PySem.F.entry_list_count (PySem.F.args_list_count_2 _ _)
      (SeqAt.list_countAt a its.toArray n dd sls uy (fun u => PyData.eqv (SeqAt.readOf s.heap u) d)) ⟨ho, SeqAt.items_eqAt (vs := its.toArray) (show ReadsAll s.heap its.toArray.toList ds as from h4) r1 hxs (SeqAt.canLay_of_shaped sd) hroom, ?_⟩
    refine ⟨.int (ds.countP (fun z => PyData.eqv z d) : Nat), H, I.tok _, ⟨s.toks, ?_⟩, q⟩
    show Value.int ((its.toArray.toList.countP _ : Nat) : Int) s.toks = Value.int ((ds.countP _ : Nat) : Int) s.toks
    rw [ec]
end
theorem d_cntD {K : PySem.W.Frag} {σ : L2.St} {F : Hp} {ta tb : TE} {ds : List PyData} {d1 : PyData} (ha : EvD ta σ F (.list ds)) (hb : EvD tb σ F d1) (p1 : plainD d1 = true) (p2 : plainDs ds = true) (s1 : SeqAt.shaped d1 = true) (s2 : SeqAt.shaped (.list ds) = true) :
    EvD (tBM K "list" (rCountD K) ta (tCons tb tNil)) σ F (.int (ds.countP (fun z => PyData.eqv z d1) : Nat)) := fun H1 e Q q =>
  ha H1 e _ fun x H2 e2 hx => by
    obtain ⟨a, xs, rfl, h1, h2⟩ := hx.list_
    have g1 : H2 a = some (.lst xs) := nw_ex (e.trans e2) _ _ h1
    refine ⟨Or.inl ⟨rfl, xs, sq_of g1⟩, hb H2 (e.trans e2) _ fun y H3 e3 hy => ?_⟩
    have ex3 : Ex (nw F H1 H2) H3 := (nw_ex (e.trans e2)).trans e3
    exact ⟨a, y, d1, ds, rfl, rfl, (Dt.lst (ex3 _ _ h1) (h2.ex ex3)).dp (by unfold plainD; exact p2), (hy.ex (nw_ex ((e.trans e2).trans e3))).dp p1, s2, s1, q _ H3 (e2.trans e3) (.int _)⟩
/-! trees, each of whose lists has got one thing more -/
mutual
/-- the data behind it -/
def lateD : PyData → PyData
  | .list ds => .list (lateDs ds ++ [.str "late9"])
  | .tuple ds => .tuple (lateDs ds)
  | d => d
def lateDs : List PyData → List PyData
  | [] => []
  | d :: ds => lateD d :: lateDs ds
end
mutual
inductive Sl (H : Hp) : V → PyData → List Addr → Prop
  | non : Sl H .non .none []
  | int (i : Int) : Sl H (.int i) (.int i) []
  | lst {a : Addr} {xs : List V} {ds : List PyData} {as : List Addr} : H a = some (.lst (xs ++ [.str "late9"])) → SlAll H xs ds as → Sl H (.ref a) (.list ds) (a :: as)
  | tup {a : Addr} {xs : List V} {ds : List PyData} {as : List Addr} : H a = some (.tup xs) → SlAll H xs ds as → Sl H (.ref a) (.tuple ds) as
inductive SlAll (H : Hp) : List V → List PyData → List Addr → Prop
  | nil : SlAll H [] [] []
  | cons {v : V} {vs : List V} {d : PyData} {ds : List PyData} {as bs : List Addr} : Sl H v d as → SlAll H vs ds bs → SlAll H (v :: vs) (d :: ds) (as ++ bs)
end
mutual
theorem Sl.dt {H : Hp} : ∀ {v : V} {d : PyData} {as : List Addr}, Sl H v d as → Dt H v (lateD d)
  | _, _, _, .non => .non
  | _, _, _, .int i => .int i
  | _, _, _, .lst h a => .lst h ((SlAll.dt a).snoc (.str _))
  | _, _, _, .tup h a => .tup h (SlAll.dt a)
theorem SlAll.dt {H : Hp} : ∀ {vs : List V} {ds : List PyData} {as : List Addr}, SlAll H vs ds as → DtAll H vs (lateDs ds)
  | _, _, _, .nil => .nil
  | _, _, _, .cons h a => .cons (Sl.dt h) (SlAll.dt a)
end
/-- what stands at none of these addresses stays -/
def KeepBut (as : List Addr) (H H' : Hp) : Prop := ∀ b o, b ∉ as → H b = some o → H' b = some o
mutual
theorem Sl.keep {H H' : Hp} {cs : List Addr} (k : KeepBut cs H H') (hc : ∀ c ∈ cs, ∃ xs, H c = some (.lst xs)) : ∀ {v : V} {d : PyData} {as : List Addr}, Sl H v d as → (∀ a ∈ as, a ∉ cs) → Sl H' v d as
  | _, _, _, .non, _ => .non
  | _, _, _, .int i, _ => .int i
  | _, _, _, .lst h a, n => .lst (k _ _ (n _ (List.mem_cons_self ..)) h) (SlAll.keep k hc a fun b hb => n b (List.mem_cons_of_mem _ hb))
  | _, _, _, .tup h a, n => .tup (k _ _ (fun m => by
      obtain ⟨xs, z⟩ := hc _ m
      rw [h] at z
      cases z) h) (SlAll.keep k hc a n)
theorem SlAll.keep {H H' : Hp} {cs : List Addr} (k : KeepBut cs H H') (hc : ∀ c ∈ cs, ∃ xs, H c = some (.lst xs)) : ∀ {vs : List V} {ds : List PyData} {as : List Addr}, SlAll H vs ds as → (∀ a ∈ as, a ∉ cs) → SlAll H' vs ds as
  | _, _, _, .nil, _ => .nil
  | _, _, _, .cons h a, n => .cons (Sl.keep k hc h fun b hb => n b (List.mem_append.mpr (.inl hb))) (SlAll.keep k hc a fun b hb => n b (List.mem_append.mpr (.inr hb)))
end
mutual
theorem Tr.keep {H H' : Hp} {cs : List Addr} (k : KeepBut cs H H') (hc : ∀ c ∈ cs, ∃ xs, H c = some (.lst xs)) : ∀ {v : V} {d : PyData} {as : List Addr}, Tr H v d as → (∀ a ∈ as, a ∉ cs) → Tr H' v d as
  | _, _, _, .non, _ => .non
  | _, _, _, .int i, _ => .int i
  | _, _, _, .lst h a, n => .lst (k _ _ (n _ (List.mem_cons_self ..)) h) (TrAll.keep k hc a fun b hb => n b (List.mem_cons_of_mem _ hb))
  | _, _, _, .tup h a, n => .tup (k _ _ (fun m => by
      obtain ⟨xs, z⟩ := hc _ m
      rw [h] at z
      cases z) h) (TrAll.keep k hc a n)
theorem TrAll.keep {H H' : Hp} {cs : List Addr} (k : KeepBut cs H H') (hc : ∀ c ∈ cs, ∃ xs, H c = some (.lst xs)) : ∀ {vs : List V} {ds : List PyData} {as : List Addr}, TrAll H vs ds as → (∀ a ∈ as, a ∉ cs) → TrAll H' vs ds as
  | _, _, _, .nil, _ => .nil
  | _, _, _, .cons h a, n => .cons (Tr.keep k hc h fun b hb => n b (List.mem_append.mpr (.inl hb))) (TrAll.keep k hc a fun b hb => n b (List.mem_append.mpr (.inr hb)))
end
end WB
namespace WB
open PySem PySem.Spec PyProof.Rows L2 Evl
section
variable {D : Ends} {rest tu : TS} {σ : L2.St} {H : Hp}
/-- for j in .., items that stay as they are while the body may write -/
theorem for_items {J : It} {j : Nat} {xs : List V} (P : L2.St → Prop) (I : Nat → Hp → Prop) (hg : ∀ i H x, I i H → xs[i]? = some x → J.go i H) (hy : ∀ i H x H', I i H → J.yld i H x H' → H' = H ∧ (i < xs.length → xs[i]? = some x)) (hst : ∀ i H, I i H → xs.length ≤ i → J.stop i H)
    (p0 : P σ) (h0 : I 0 H) (hs : ∀ i σ' H' x, xs[i]? = some x → P σ' → I i H' → ∀ N : L2.St → Hp → Prop, (∀ σ2 H2, P σ2 → I (i + 1) H2 → N σ2 H2) → tu { D with nx := N, ct := N, bk := rest D } (σ'.set j (some x)) H')
    (hd : ∀ σ' H', P σ' → I xs.length H' → rest D σ' H') :
    ∃ W : Nat → Nat → L2.St → Hp → Prop, (∃ m, W 0 m σ H) ∧ ∀ i k σ H, W i k σ H →
      (J.stop i H ∧ rest D σ H) ∨ (J.go i H ∧ ∃ N : L2.St → Hp → Prop, (∀ σ' H', N σ' H' → ∃ m', m' < k ∧ W (i + 1) m' σ' H') ∧ ∀ x H', J.yld i H x H' → (gName j) x σ H' fun σ2 H2 => tu { D with nx := N, ct := N, bk := rest D } σ2 H2) := by
  refine ⟨fun i k σ' H' => k = xs.length - i ∧ i ≤ xs.length ∧ P σ' ∧ I i H', ⟨xs.length, by simp, Nat.zero_le _, p0, h0⟩, ?_⟩
  rintro i k σ' H' ⟨rfl, hi, pp, ii⟩
  by_cases hlt : i < xs.length
  · refine .inr ⟨hg i H' xs[i] ii (List.getElem?_eq_getElem hlt), fun σ2 H2 => P σ2 ∧ I (i + 1) H2, fun σ2 H2 p2 => ⟨xs.length - (i + 1), by omega, rfl, hlt, p2⟩, fun x Hn y => ?_⟩
    obtain ⟨e1, e2⟩ := hy i H' x Hn ii y
    subst e1
    exact hs i σ' _ x (e2 hlt) pp ii _ fun σ3 H3 p3 i3 => ⟨p3, i3⟩
  · have ei : i = xs.length := by omega
    subst ei
    exact .inl ⟨hst _ H' ii (Nat.le_refl _), hd σ' H' pp ii⟩
end
end WB
/-! Promises of which one of two is kept; refusals; zip of lists or tuples; == of one object with itself. -/
namespace WB
open PySem PySem.Spec PyProof.Rows L2 Evl
/-- one of two promises -/
def SpOr (a b : Sp) : Sp := fun vs H Q E => a vs H Q E ∨ b vs H Q E
theorem or_len {a b : Sp} {n : Nat} (h1 : ∀ vs H Q E, a vs H Q E → vs.length = n) (h2 : ∀ vs H Q E, b vs H Q E → vs.length = n) (vs : List V) (H : Hp) (Q : VK) (E : XK) (h : SpOr a b vs H Q E) : vs.length = n := h.elim (h1 _ _ _ _) (h2 _ _ _ _)
/-- what is refused: by the class at C, which keeps v as f -/
def SpX (bad : Hp → List V → Addr → Str → V → Prop) : Sp := fun vs H _ E => ∃ F C f v, Ex F H ∧ bad F vs C f v ∧ ∀ d H', Ex H H' → H d = none → H' d = some (.xd [(f, v)]) → E (.ref C) (some d) H'
theorem x_len {bad : Hp → List V → Addr → Str → V → Prop} {n : Nat} (h : ∀ F vs C f v, bad F vs C f v → vs.length = n) (vs : List V) (H : Hp) (Q : VK) (E : XK) (s : SpX bad vs H Q E) : vs.length = n := by
  obtain ⟨F, C, f, v, _, b, _⟩ := s
  exact h _ _ _ _ _ b
section
variable {M : Addr → Prop} {K : PySem.W.Frag} {F0 H0 F H G : Hp} {σ : L2.St} {ta tb te tx : TE} {d d1 d2 : PyData} {v : V} {D : Ends} {tu tw rest : TS} {T : Hp → V → Prop} {Q : VK}
theorem p_callL {α : Type} {args : α → Hp → List V → Prop} {res : α → Hp → V → Prop} {b : Sp} {E : XK} {ta : TA} (x : α) (h : EvPA ta σ F (args x)) (mo : Mo (res x)) : EvP (tCall (SpOr (SpP args res) b) [] E ta) σ F (res x) := fun H1 e Q q =>
  h H1 e _ fun xs H2 e2 hx => by
    show SpOr (SpP args res) b (xs ++ []) H2 Q E
    rw [List.append_nil]
    exact .inl ⟨nw F H1 H2, x, nw_ex (e.trans e2), hx, fun v H3 e3 hv => q v H3 (e2.trans e3) (mo _ _ _ (nw_nw e2 e3) hv)⟩
theorem r_callL {α : Type} {args : α → Hp → List V → Prop} {res : α → PyData} {b : Sp} {E : XK} {ta : TA} (x : α) (h : EvPA ta σ F (args x)) : EvR (tCall (SpOr (SpR args res) b) [] E ta) σ F F (res x) := fun H1 e Q q =>
  h H1 e _ fun xs H2 e2 hx => by
    show SpOr (SpR args res) b (xs ++ []) H2 Q E
    rw [List.append_nil]
    exact .inl ⟨nw F H1 H2, x, nw_ex (e.trans e2), hx, fun v H3 as e3 hv hn hf => q v H3 as (e2.trans e3) (hv.ex (nw_nw e2 e3)) hn fun a m => exdm e2 a (hf a m)⟩
/-- a call that is refused -/
theorem x_call {bad : Hp → List V → Addr → Str → V → Prop} {a : Sp} {E : XK} {ta : TA} {C : Addr} {f : Str} {z : V} (e : Ex F H) (h : EvPA ta σ F (fun G vs => bad G vs C f z)) (k : ∀ d H', Ex H H' → H' d = some (.xd [(f, z)]) → H d = none → E (.ref C) (some d) H') : tCall (SpOr a (SpX bad)) [] E ta σ H Q :=
  h H e _ fun xs H2 e2 hx => by
    show SpOr a (SpX bad) (xs ++ []) H2 Q E
    rw [List.append_nil]
    refine .inr ⟨nw F H H2, C, f, z, nw_ex (e.trans e2), hx, fun d H3 e3 hd h3 => k d H3 (e2.trans e3) h3 ?_⟩
    cases q : H d with
    | none => rfl
    | some u => rw [e2 _ _ q] at hd; cases hd
/-- .. within a try -/
theorem x_callS {bad : Hp → List V → Addr → Str → V → Prop} {a : Sp} {E : L2.St → XK} {ta : TA} {C : Addr} {f : Str} {z : V} (e : Ex F H) (h : EvPA ta σ F (fun G vs => bad G vs C f z)) (k : ∀ d H', Ex H H' → H' d = some (.xd [(f, z)]) → E σ (.ref C) (some d) H') : tCallS (SpOr a (SpX bad)) E ta σ H Q :=
  h H e _ fun xs H2 e2 hx => .inr ⟨nw F H H2, C, f, z, nw_ex (e.trans e2), hx, fun d H3 e3 hd h3 => k d H3 (e2.trans e3) h3⟩
theorem wp_lst {ta : TA} (h : ta σ H fun xs H1 => xs.length ≤ sizeLine ∧ ∀ p, H1 p = none → Q (.ref p) (upd H1 p (.lst xs))) : tLst ta σ H Q := h
theorem wp_ifX {t : TT} (h : t σ H fun c H1 => if c = true then ta σ H1 Q else tb σ H1 Q) : tIf t ta tb σ H Q := h
/-- (x, v), new -/
theorem tup_new {H' : Hp} {p : Addr} {x : Str} (e0 : Ex F H) (e : Ex H H') (hp : H' p = none) (hd : Dt F v d) : Dt (nw F H (upd H' p (.tup [.str x, v]))) (.ref p) (.tuple [.str x, d]) :=
  .tup (by rw [nw_n (exdm e p hp), upd_same]) (.cons (.str _) (.cons (hd.ex (ex_nw e0)) .nil))
/-- raise X(e) -/
theorem x_raise {C : Addr} {f : Str} {E : XK} {z : V} (e : Ex F H) (h : Ev te σ F z) (k : ∀ d H', Ex H H' → H d = none → H' d = some (.xd [(f, z)]) → E (.ref C) (some d) H') : tRaise1 C f (fun cls d _ H => E cls d H) te D σ H := h H e _ fun H1 e1 => raise_ok fun d hd => k d _ (e1.trans (Ex.new hd)) (by
    cases q : H d with
    | none => rfl
    | some u => rw [e1 _ _ q] at hd; cases hd) upd_same
theorem pa_v1 {i : Nat} {x : V} {B : Hp → List V → Prop} (h : σ[i]? = some (some x)) (hb : B F [x]) (mo : MoA B) : EvPA (tCons (tVar i) tNil) σ F B := fun H1 e _ q => ⟨x, h, q [x] H1 (Ex.refl H1) (mo _ _ _ (ex_nw e) hb)⟩
theorem pa_v2 {i j : Nat} {x y : V} {B : Hp → List V → Prop} (h : σ[i]? = some (some x)) (h2 : σ[j]? = some (some y)) (hb : B F [x, y]) (mo : MoA B) : EvPA (tCons (tVar i) (tCons (tVar j) tNil)) σ F B := fun H1 e _ q => ⟨x, h, y, h2, q [x, y] H1 (Ex.refl H1) (mo _ _ _ (ex_nw e) hb)⟩
theorem pa_v3 {i j k : Nat} {x y z : V} {B : Hp → List V → Prop} (h : σ[i]? = some (some x)) (h2 : σ[j]? = some (some y)) (h3 : σ[k]? = some (some z)) (hb : B F [x, y, z]) (mo : MoA B) : EvPA (tCons (tVar i) (tCons (tVar j) (tCons (tVar k) tNil))) σ F B := fun H1 e _ q => ⟨x, h, y, h2, z, h3, q [x, y, z] H1 (Ex.refl H1) (mo _ _ _ (ex_nw e) hb)⟩
theorem x_drop (h : te σ H fun _ H1 => rest D σ H1) : tSeq (tDrop te) rest D σ H := h
/-- return told, row: both one's own -/
theorem k_finR2 {l m : Addr} {vs : List V} {ns : List Nat} {ds : List PyData} {as : List Addr} (hQ : ∀ v H' as, Ex H0 H' → Tr (nw F0 H0 H') v (.tuple [.list ds, natsD ns]) as → as.Nodup → (∀ a ∈ as, H0 a = none) → Q v H') (kn : Kn M0 F0 H0 F H) (hl : H l = some (.lst vs)) (hF : F l = none) (h0 : H0 l = none)
    (ht : TrAll F vs ds as) (nd : as.Nodup) (hn : ∀ a ∈ as, H0 a = none) (hm : H m = some (.lst (natsV ns))) (mF : F m = none) (m0 : H0 m = none) (ne : m ≠ l) (he : Ev te σ H (.ref l)) (hf : Ev tb σ H (.ref m)) (hD : D.rt = Q := by rfl) : tRet (tTup (tCons te (tCons tb tNil))) D σ H := by
  show te σ H _
  refine he H (Ex.refl H) _ fun H1 e => hf H1 e _ fun H2 e2 => ⟨(show 2 ≤ sizeLine by decide), fun p hp => ?_⟩
  rw [hD]
  have ee := e.trans e2
  have s := kn.step (ee.trans (Ex.new (o := .tup [.ref l, .ref m]) hp))
  have p0 : H0 p = none := kn.dm p (exdm ee p hp)
  have u1 : ∀ a o, H a = some o → upd H2 p (.tup [.ref l, .ref m]) a = some o := fun a o h => (ee.trans (Ex.new hp)) a o h
  refine hQ (.ref p) _ ((l :: as) ++ ([m] ++ [])) s.kn.hh (.tup ?_ (.cons (.lst ?_ (ht.ex (s.ff.trans s.kn.nw))) (.cons (nats_tr ?_) .nil))) ?_ fun a q => ?_
  · rw [nw_n p0, upd_same]
  · rw [nw_n h0]; exact u1 _ _ hl
  · rw [nw_n m0]; exact u1 _ _ hm
  · refine List.nodup_append.mpr ⟨List.nodup_cons.mpr ⟨fun z => ?_, nd⟩, by simp, fun a ha b hb z => ?_⟩
    · obtain ⟨xs, w⟩ := ht.has l z
      rw [hF] at w
      cases w
    · have hb' : b = m := by simpa using hb
      rw [z, hb'] at ha
      rcases List.mem_cons.mp ha with q | q
      · exact ne q
      · obtain ⟨xs, w⟩ := ht.has m q
        rw [mF] at w
        cases w
  · rcases List.mem_append.mp q with q | q
    · rcases List.mem_cons.mp q with q | q
      · rw [q]; exact h0
      · exact hn a q
    · have hb' : a = m := by simpa using q
      rw [hb']; exact m0
/-- e[0] of a pair -/
theorem r_ix0 (h : EvR te σ G F (.tuple [d1, d2])) (eF : Ex F G) : EvR (tOp (rIxT K) te (tC (.int 0))) σ G F d1 := fun H1 e Q q => h H1 e _ fun v H2 as e2 ht nd hn => by
  cases ht with
  | @tup a xs _ _ h1 h2 =>
    cases h2 with
    | @cons x vs _ _ as1 bs h3 h4 =>
      have h1' : H2 a = some (.tup (x :: vs)) := nw_ex ((eF.trans e).trans e2) _ _ h1
      exact ⟨a, x :: vs, 0, x, rfl, rfl, SqT.of h1', (by unfold L2.atI ixN; simp), q x H2 as1 e2 h3 (List.nodup_append.mp nd).1 fun b m => hn b (List.mem_append.mpr (.inl m))⟩
/-- return e, a tree of new lists -/
theorem kr_fin (hQ : ∀ v H' as, Ex H0 H' → Tr (nw F0 H0 H') v d as → as.Nodup → (∀ a ∈ as, H0 a = none) → Q v H') (kn : Kn M0 F0 H0 F H) (h : EvR te σ F F d) (hD : D.rt = Q := by rfl) : tRet te D σ H := h H kn.fh _ fun v H1 as e ht nd hn => by
  rw [hD]
  have s := kn.step e
  exact hQ v H1 as s.kn.hh (ht.ex s.kn.nw) nd fun a m => kn.dm a (hn a m)
/-! zip of two lists or of two tuples -/
theorem itd_zipT {G : Hp} {a b : Addr} {xs ys : List V} {ds es : List PyData} (h : G a = some (.tup xs)) (hd : DtAll G xs ds) (h' : G b = some (.tup ys)) (he : DtAll G ys es) : ItD (RZ.ItzT K a b) G (zipD ds es) where
  go := fun i H e hi => by
    unfold zipD at hi
    rw [List.length_zipWith] at hi
    have hl : i < xs.length := by rw [hd.len]; omega
    have hl' : i < ys.length := by rw [he.len]; omega
    exact ⟨xs, ys, xs[i], ys[i], SqT.of (e _ _ h), SqT.of (e _ _ h'), List.getElem?_eq_getElem hl, List.getElem?_eq_getElem hl'⟩
  yld := fun i H x H' e hi ⟨T, y, z, e1, hT, e2, e3, e4⟩ => by
    subst e1 e2
    unfold zipD at hi
    rw [List.length_zipWith] at hi
    refine ⟨Ex.new hT, fun d hdd => ?_⟩
    have hi2 : ds[i]? = some ds[i] := List.getElem?_eq_getElem (by omega)
    have hi3 : es[i]? = some es[i] := List.getElem?_eq_getElem (by omega)
    obtain ⟨v, h1, h2⟩ := hd.get hi2
    obtain ⟨v', h1', h2'⟩ := he.get hi3
    unfold zipD at hdd
    rw [List.getElem?_zipWith, hi2, hi3] at hdd
    cases hdd
    have z1 := e3 xs (SqT.of (e _ _ h))
    rw [h1] at z1
    cases z1
    have z2 := e4 ys (SqT.of (e _ _ h'))
    rw [h1'] at z2
    cases z2
    exact .tup (by rw [nw_n hT, upd_same]) (.cons (h2.ex (ex_nw e)) (.cons (h2'.ex (ex_nw e)) .nil))
  stop := fun i H e hi => by
    unfold zipD at hi
    rw [List.length_zipWith] at hi
    refine ⟨xs, ys, SqT.of (e _ _ h), SqT.of (e _ _ h'), ?_⟩
    rw [hd.len, he.len]
    omega
theorem wk_zipAL {ta : TA} {ds es : List PyData} (h : EvDA ta σ F [.list ds, .list es]) : WkD (RZ.iZipA K ta) σ F (zipD ds es) := fun H1 e R q => h H1 e _ fun vs H2 e2 hv => by
  obtain ⟨x, y, rfl, hx, hy⟩ := da2_ hv
  obtain ⟨a, xs, rfl, h1, h2⟩ := hx.list_
  obtain ⟨b, ys, rfl, h3, h4⟩ := hy.list_
  exact ⟨a, b, xs, ys, rfl, .inl ⟨SqL.of (nw_ex (e.trans e2) _ _ h1), SqL.of (nw_ex (e.trans e2) _ _ h3), q _ H2 e2 (itd_zip h1 h2 h3 h4)⟩⟩
theorem wk_zipAT {ta : TA} {ds es : List PyData} (h : EvDA ta σ F [.tuple ds, .tuple es]) : WkD (RZ.iZipA K ta) σ F (zipD ds es) := fun H1 e R q => h H1 e _ fun vs H2 e2 hv => by
  obtain ⟨x, y, rfl, hx, hy⟩ := da2_ hv
  obtain ⟨a, xs, rfl, h1, h2⟩ := hx.tuple_
  obtain ⟨b, ys, rfl, h3, h4⟩ := hy.tuple_
  exact ⟨a, b, xs, ys, rfl, .inr ⟨SqT.of (nw_ex (e.trans e2) _ _ h1), SqT.of (nw_ex (e.trans e2) _ _ h3), q _ H2 e2 (itd_zipT h1 h2 h3 h4)⟩⟩
/-- list(d.items()) of the empty dict -/
theorem d_items0 (h : EvD te σ F (.dict [])) : EvD (LiI.tListItems te) σ F (.list []) := fun H1 e Q q => h H1 e _ fun x H2 e2 hx => by
  cases hx with
  | @emp a h1 =>
    refine ⟨a, [], rfl, nw_ex (e.trans e2) _ _ h1, fun H' p ts ke hp ht hn hl hv => ?_⟩
    have z : ts = [] := by
      cases ts with
      | nil => rfl
      | cons t r => cases hv
    subst z
    have e3 : Ex H2 H' := fun a o h => ke a o h
    refine q (.ref p) H' (e2.trans e3) (.lst ?_ .nil)
    rw [nw_n (exdm e2 p hp)]
    exact hl
end
section
variable {X : Cx} {K : PySem.W.Frag} {e e2 : Expr} {ta : TA} {p pos tpos : Pos} {elts : List Expr} {kk : Nat}
theorem pi_zipAK (hK : X.K = K) (hg : Gl X "zip") (hm : X.mg "zip" = none) (ha : PA X [e, e2] ta)
    (hs : starEach [e, e2] X.env = (false, eval e X.env) :: starEach [e2] X.env := by rfl) (hpl : (backTo pos (starEach [e2] X.env)).any (·.1) = false := by rfl) :
    PI X (.Tuple elts kk tpos) (.Call (.Name "zip" p) [e, e2] [] pos) (RZ.iZipA K ta) := by
  subst hK
  exact RZ.pi_zipA hg hm ha hs hpl
theorem op_or {f : Value → Value → Sem Value} {r1 r2 : R2} (h1 : OpR X f r1) (h2 : OpR X f r2) : OpR X f (fun x y H Q => r1 x y H Q ∨ r2 x y H Q) := fun pins s σ H x y v u Q I rx ry h => by
  rcases h with h | h
  · exact h1 pins s σ H x y v u Q I rx ry h
  · exact h2 pins s σ H x y v u Q I rx ry h
end
end WB
/-! Calls by names alone. -/
namespace WB
open PySem PySem.Spec PyProof.Rows L2 Evl
def g1 {α : Type} : List α → List α → List α
  | [], [a] => [a]
  | _, _ => []
/-- three parameters, told the last one first -/
def g3 {α : Type} : List α → List α → List α
  | [], [a, b, c] => [c, b, a]
  | _, _ => []
theorem kb1 {K : PySem.W.Frag} {fd : FuncData} {p : Str} (h : ∀ a : Value, bindArgs fd ⟨[], [(p, a)]⟩ = pure [(p, a)]) : KBinds K fd [p] [p] g1 g1 where
  to := fun s us ws _ hl => by
    match us, ws, hl with
    | [], [a], _ =>
      intro M A E Q q
      show wpAny M A (bindArgs fd ⟨[], [(p, a)]⟩) Q E s
      rw [h a]
      exact wpAny_pure q
    | [], [], hl => cases hl
    | [], _ :: _ :: _, hl => cases hl
    | _ :: _, _, hl => cases hl
  rel := fun h1 h2 => by
    cases h1 with
    | nil =>
      cases h2 with
      | nil => exact .nil
      | cons r t =>
        cases t with
        | nil => exact .cons r .nil
        | cons r2 t2 => exact .nil
    | cons r t => exact .nil
theorem kb3 {K : PySem.W.Frag} {fd : FuncData} {p q r : Str} (h : ∀ a b c : Value, bindArgs fd ⟨[], [(r, a), (q, b), (p, c)]⟩ = pure [(p, c), (q, b), (r, a)]) : KBinds K fd [p, q, r] [r, q, p] g3 g3 where
  to := fun s us ws _ hl => by
    match us, ws, hl with
    | [], [a, b, c], _ =>
      intro M A E Q q'
      show wpAny M A (bindArgs fd ⟨[], [(r, a), (q, b), (p, c)]⟩) Q E s
      rw [h a b c]
      exact wpAny_pure q'
    | [], [], hl => cases hl
    | [], [_], hl => cases hl
    | [], [_, _], hl => cases hl
    | [], _ :: _ :: _ :: _ :: _, hl => cases hl
    | _ :: _, _, hl => cases hl
  rel := fun h1 h2 => by
    cases h1 with
    | nil =>
      cases h2 with
      | nil => exact .nil
      | cons r1 t =>
        cases t with
        | nil => exact .nil
        | cons r2 t2 =>
          cases t2 with
          | nil => exact .nil
          | cons r3 t3 =>
            cases t3 with
            | nil => exact .cons r3 (.cons r2 (.cons r1 .nil))
            | cons r4 t4 => exact .nil
    | cons r t => exact .nil
section
variable (P : Program) (w : World) (K : PySem.W.Frag) (mg : Str → Option Value) (base : Heap)
/-- a def of the module, called by names -/
def ClK (k : Nat) (x : Str) (ps ks : List Str) (g : List Value → List Value → List Value) (gV : List V → List V → List V) (sp : Sp) : Prop :=
  ∃ (f : Addr) (fd : FuncData), FnOk P w K mg base (L2.CX P w) k f fd ps sp ∧ mg x = some (.ref f) ∧ PySem.W.keepIn K (.ref f) = true ∧ KBinds K fd ps ks g gV
end
section
variable {P : Program} {w : World} {K : PySem.W.Frag} {mg : Str → Option Value} {base : Heap} {ps ks : List Str} {k : Nat} {sp : Sp} {x qual : Str} {params : Arguments} {body : List Stmt} {scope : Scope} {f : Addr}
theorem mk_clF (F : ∃ fd, FunD K x qual params body scope [] [] f fd) (hm : mg x = some (.ref f)) (h : ∀ {fd : FuncData}, FunD K x qual params body scope [] [] f fd → FnOk P w K mg base (L2.CX P w) k f fd ps sp)
    (hb : ∀ (kV doc pm : Value) (an : Option Addr) (cdv ct : Value) (us : List Value), us.length = ps.length → bindArgs (PySem.W.fnOf x qual params body scope .none kV doc pm an cdv ct) ⟨us, []⟩ = pure (ps.zip us)) : Cl P w K mg base k x ps sp := by
  obtain ⟨fd, F⟩ := F
  exact ⟨f, fd, h F, hm, F.kp, F.bindsN hb⟩
theorem FunD.fnN {fd : FuncData} (F : FunD K x qual params body scope [] [] f fd) : ∃ (kV doc pm : Value) (an : Option Addr) (cdv ct : Value), fd = PySem.W.fnOf x qual params body scope .none kV doc pm an cdv ct := by
  obtain ⟨oc, od, dV, kV, doc, pm, an, cdv, ct, osl, e, _, _, hD, _⟩ := F.ex
  rcases hD with ⟨_, e2⟩ | ⟨n, _⟩
  · exact ⟨kV, doc, pm, an, cdv, ct, by rw [e, e2]⟩
  · exact absurd rfl n
theorem mk_clK1 {p : Str} (F : ∃ fd, FunD K x qual params body scope [] [] f fd) (hm : mg x = some (.ref f)) (h : ∀ {fd : FuncData}, FunD K x qual params body scope [] [] f fd → FnOk P w K mg base (L2.CX P w) k f fd [p] sp)
    (hb : ∀ (kV doc pm : Value) (an : Option Addr) (cdv ct : Value) (a : Value), bindArgs (PySem.W.fnOf x qual params body scope .none kV doc pm an cdv ct) ⟨[], [(p, a)]⟩ = pure [(p, a)]) : ClK P w K mg base k x [p] [p] g1 g1 sp := by
  obtain ⟨fd, F⟩ := F
  refine ⟨f, fd, h F, hm, F.kp, kb1 fun a => ?_⟩
  obtain ⟨kV, doc, pm, an, cdv, ct, rfl⟩ := FunD.fnN F
  exact hb ..
theorem mk_clK3 {p q r : Str} (F : ∃ fd, FunD K x qual params body scope [] [] f fd) (hm : mg x = some (.ref f)) (h : ∀ {fd : FuncData}, FunD K x qual params body scope [] [] f fd → FnOk P w K mg base (L2.CX P w) k f fd [p, q, r] sp)
    (hb : ∀ (kV doc pm : Value) (an : Option Addr) (cdv ct : Value) (a b c : Value), bindArgs (PySem.W.fnOf x qual params body scope .none kV doc pm an cdv ct) ⟨[], [(r, a), (q, b), (p, c)]⟩ = pure [(p, c), (q, b), (r, a)]) : ClK P w K mg base k x [p, q, r] [r, q, p] g3 g3 sp := by
  obtain ⟨fd, F⟩ := F
  refine ⟨f, fd, h F, hm, F.kp, kb3 fun a b c => ?_⟩
  obtain ⟨kV, doc, pm, an, cdv, ct, rfl⟩ := FunD.fnN F
  exact hb ..
end
def tCallN (sp : Sp) (gV : List V → List V → List V) (E : XK) (tk : TA) : TE := fun σ H Q => tk σ H fun zs H1 => sp (gV [] zs) H1 Q E
theorem pe_clK {X : Cx} {k j : Nat} {x : Str} {ps ks : List Str} {g : List Value → List Value → List Value} {gV : List V → List V → List V} {sp : Sp} {E : XK} {p pos : Pos} {kws : List Keyword} {tk : TA}
    (c : ClK X.prog X.w X.K X.mg X.base k x ps ks g gV sp) (hr : Room j X.A) (hk : k ≤ j) (hx : Passes (L2.CX X.prog X.w) X E) (hg : Gl X x) (hkw : PK X kws tk)
    (hall : ((backToKw pos (keywordEach kws X.env)).all fun x => x.1.isSome) = true := by rfl) (hks : (backToKw pos (keywordEach kws X.env)).filterMap (·.1) = ks := by rfl)
    (hdb : (x == ("__debug__" : Str)) = false := by decide) (hpl : ((backTo pos (starEach [] X.env)).any (·.1) || (backToKw pos (keywordEach kws X.env)).any fun x => x.1.isNone) = false := by rfl) :
    PE X (.Call (.Name x p) [] kws pos) (tCallN sp gV E tk) := by
  obtain ⟨f, fd, F, hm, hkp, hb⟩ := c
  refine ⟨fun pins s σ H Q I h => ?_⟩
  refine wpAny_Call_Name_kw (ld_glob I hg hm (PySem.W.callWith_KW0 (I.ok.mod.kin) hkp hall (thn (hkw.run pos pins s σ H _ I h) fun ws s2 ⟨zs, H2, I2, rz, q2⟩ => ⟨I2.kIn, ?_⟩) hpl) hdb)
  rw [hks]
  exact run_fnk F (hr.mono hk) hb hx I2 .nil rz q2
end WB
/-! Words, rules, steps: what they are in plain Lean. -/
namespace WB
open PySem PySem.Spec PyProof.Rows L2 Evl
/-- a word: small letters alone -/
def isW (z : Str) : Bool := z.cps.all fun c => decide (97 ≤ c) && decide (c ≤ 122)
theorem low_alpha : ∀ c, c < 128 → ((decide (97 ≤ c) && decide (c ≤ 122)) = true → Unicode.isAlpha c = true ∧ Unicode.isLower c = true ∧ (Unicode.isUpper c || Unicode.isTitle c) = false) ∧ ((decide (97 ≤ c) && decide (c ≤ 122)) = false → Unicode.isAlpha c = true → (Unicode.isUpper c || Unicode.isTitle c) = true) := by decide +kernel
theorem word_tests (z : Str) (hne : z.length ≠ 0) : (Txt.isascii z && (Txt.isalpha z && Txt.islower z)) = isW z := by
  unfold Txt.isascii Txt.isalpha Txt.islower isW
  have hz : (decide (z.length > 0)) = true := decide_eq_true (Nat.pos_of_ne_zero hne)
  rw [Bool.eq_iff_iff]
  simp only [Bool.and_eq_true, Array.all_eq_true, Array.any_eq_true, Bool.not_eq_true', decide_eq_true_eq]
  constructor
  · rintro ⟨h1, ⟨_, h2⟩, _, h4⟩ i hi
    cases q : (decide (97 ≤ z.cps[i]) && decide (z.cps[i] ≤ 122)) with
    | true => simpa using q
    | false =>
      have z1 := (low_alpha z.cps[i] (h1 i hi)).2 q (h2 i hi)
      exfalso
      have z2 : (z.cps.any fun c => Unicode.isUpper c || Unicode.isTitle c) = true := Array.any_eq_true.mpr ⟨i, hi, z1⟩
      rw [z2] at h4
      cases h4
  · intro h
    have hq : ∀ i (hi : i < z.cps.size), z.cps[i] < 128 := fun i hi => by have := h i hi; omega
    have hl : ∀ i (hi : i < z.cps.size), (decide (97 ≤ z.cps[i]) && decide (z.cps[i] ≤ 122)) = true := fun i hi => by simpa using h i hi
    refine ⟨hq, ⟨Nat.pos_of_ne_zero hne, fun i hi => ((low_alpha _ (hq i hi)).1 (hl i hi)).1⟩, ?_, ?_⟩
    · have h0 : 0 < z.cps.size := Nat.pos_of_ne_zero hne
      exact ⟨0, h0, ((low_alpha _ (hq 0 h0)).1 (hl 0 h0)).2.1⟩
    · rw [← Bool.not_eq_true, Array.any_eq_true]
      rintro ⟨i, hi, q⟩
      rw [((low_alpha _ (hq i hi)).1 (hl i hi)).2.2] at q
      cases q
end WB
/-! ### rules, steps -/
namespace WB
open PySem PySem.Spec PyProof.Rows L2 Evl
abbrev Rule := Str × Str
/-- place, rule, is it on -/
abbrev WStep := Nat × Nat × Bool
def turnS (b : Bool) : Str := if b then "on" else "back"
def ruleD (r : Rule) : PyData := .tuple [.str r.1, .str r.2]
def rulesD (rs : List Rule) : PyData := .list (rs.map ruleD)
def stepD (s : WStep) : PyData := .tuple [.int (s.1 : Nat), .int (s.2.1 : Nat), .str (turnS s.2.2)]
def src (r : Rule) (b : Bool) : Str := if b then r.1 else r.2
def gol (r : Rule) (b : Bool) : Str := if b then r.2 else r.1
def canR (r : Rule) (z : Str) (s : WStep) : Bool := decide (V.str (cutS z (some (s.1 : Nat)) (some ((s.1 : Nat) + ((src r s.2.2).length : Nat) : Int))) = V.str (src r s.2.2))
def doneR (r : Rule) (z : Str) (s : WStep) : Str := cutS z none (some (s.1 : Nat)) ++ gol r s.2.2 ++ cutS z (some ((s.1 : Nat) + ((src r s.2.2).length : Nat) : Int)) none
/-- all sides of a length that goes -/
def RsOk (rs : List Rule) : Prop := ∀ r ∈ rs, r.1.length ≤ 1000 ∧ r.2.length ≤ 1000
theorem RsOk.at_ {rs : List Rule} (h : RsOk rs) {i : Nat} {r : Rule} (hi : rs[i]? = some r) (b : Bool) : (src r b).length ≤ 1000 ∧ (gol r b).length ≤ 1000 := by
  have z := h r (List.mem_of_getElem? hi)
  unfold src gol
  cases b
  · exact ⟨z.2, z.1⟩
  · exact z
theorem atI_rules {rs : List Rule} {i : Nat} {r : Rule} (h : rs[i]? = some r) : atI (rs.map ruleD) ((i : Nat) : Int) = some (ruleD r) := atI_nat (by rw [List.getElem?_map, h]; rfl)
theorem turn_on (b : Bool) : decide (V.str (turnS b) = V.str "on") = b := by
  cases b
  · exact decide_eq_false (by decide)
  · exact decide_eq_true rfl
end WB
namespace WB
open PySem PySem.Spec PyProof.Rows L2 Evl
section
variable {K : PySem.W.Frag} {σ : L2.St} {F : Hp} {te : TE}
theorem isW_nil : isW "" = true := by decide +kernel
/-- step[0], step[1], step[2] == "on" -/
theorem d_st0 {s : WStep} (h : EvD te σ F (stepD s)) : EvD (tOp (rIxT K) te (tC (.int 0))) σ F (.int (s.1 : Nat)) := d_ixT h d_int rfl
theorem d_st1 {s : WStep} (h : EvD te σ F (stepD s)) : EvD (tOp (rIxT K) te (tC (.int 1))) σ F (.int (s.2.1 : Nat)) := d_ixT h d_int rfl
theorem d_st2 {s : WStep} (h : EvD te σ F (stepD s)) : EvD (tOp (rIxT K) te (tC (.int 2))) σ F (.str (turnS s.2.2)) := d_ixT h d_int rfl
theorem t_on {s : WStep} (h : EvD te σ F (stepD s)) : EvT (tTest (tOp rEq (tOp (rIxT K) te (tC (.int 2))) (tC (.str "on")))) σ F s.2.2 := by
  have z := t_val (d_eq (x := .str (turnS s.2.2)) (y := .str "on") (d_st2 (K := K) h) d_str rfl rfl rfl)
  rw [turn_on] at z
  exact z
/-- rules[step[1]] -/
theorem d_rul {rs : List Rule} {s : WStep} {q : Rule} {tr : TE} (hr : EvD tr σ F (rulesD rs)) (h : EvD te σ F (stepD s)) (hq : rs[s.2.1]? = some q) : EvD (tOp (rIxL K) tr (tOp (rIxT K) te (tC (.int 1)))) σ F (ruleD q) := d_ixL hr (d_st1 h) (atI_rules hq)
theorem d_ru0 {q : Rule} (h : EvD te σ F (ruleD q)) : EvD (tOp (rIxT K) te (tC (.int 0))) σ F (.str q.1) := d_ixT h d_int rfl
theorem d_ru1 {q : Rule} (h : EvD te σ F (ruleD q)) : EvD (tOp (rIxT K) te (tC (.int 1))) σ F (.str q.2) := d_ixT h d_int rfl
/-- lengths that go -/
theorem szS {n : Nat} (h : n ≤ 100000) : n ≤ sizeLine := sz_of h
theorem cutS_len_le (z : Str) (lo hi : Option Int) {n : Nat} (h : z.length ≤ n) : (cutS z lo hi).length ≤ n := Nat.le_trans (cutS_length z lo hi) h
theorem app_len (a b : Str) : (a ++ b).length = a.length + b.length := by
  show (a.cps ++ b.cps).size = a.cps.size + b.cps.size
  exact Array.size_append
end
end WB
/-! Books and ways in plain Lean, and as they stand in a heap. -/
namespace WB
open PySem PySem.Spec PyProof.Rows L2 Evl
/-- a rule that is one -/
structure RuOk (r : Rule) : Prop where
  w1 : isW r.1 = true
  w2 : isW r.2 = true
  n1 : r.1.length ≠ 0
  n2 : r.2.length ≠ 0
  l1 : r.1.length ≤ 1000
  l2 : r.2.length ≤ 1000
structure BkOk (rs : List Rule) : Prop where
  r : ∀ q ∈ rs, RuOk q
  n : rs.length ≤ 1000
theorem BkOk.at_ {rs : List Rule} (h : BkOk rs) {i : Nat} {q : Rule} (hi : rs[i]? = some q) : RuOk q := h.r q (List.mem_of_getElem? hi)
theorem RuOk.sl {q : Rule} (h : RuOk q) (b : Bool) : (src q b).length ≤ 1000 := by
  unfold src
  cases b
  · exact h.l2
  · exact h.l1
theorem RuOk.gl {q : Rule} (h : RuOk q) (b : Bool) : (gol q b).length ≤ 1000 := by
  unfold gol
  cases b
  · exact h.l1
  · exact h.l2
def stepsD (ss : List WStep) : PyData := .list (ss.map stepD)
/-- the words along a way -/
def wordsOf (rs : List Rule) : Str → List WStep → List Str
  | z, [] => [z]
  | z, s :: r => z :: wordsOf rs (match rs[s.2.1]? with | some q => doneR q z s | none => z) r
/-- each step can be done, the words are of a length that goes -/
def WyOk (rs : List Rule) : Str → List WStep → Prop
  | z, [] => z.length ≤ 1000
  | z, s :: r => z.length ≤ 1000 ∧ ∃ q, rs[s.2.1]? = some q ∧ canR q z s = true ∧ WyOk rs (doneR q z s) r
theorem WyOk.len {rs : List Rule} : ∀ {z : Str} {ss : List WStep}, WyOk rs z ss → z.length ≤ 1000
  | _, [], h => h
  | _, _ :: _, h => h.1
structure WayM where
  rs : List Rule
  z : Str
  ss : List WStep
structure WayM.Ok (m : WayM) : Prop where
  b : BkOk m.rs
  w : isW m.z = true
  s : WyOk m.rs m.z m.ss
  n : m.ss.length ≤ 1000
/-- a Book of these rules at a -/
def BookAt (C : Addr) (rs : List Rule) (H : Hp) (v : V) : Prop := ∃ a dx l, v = .ref a ∧ H a = some (.ins C dx [("_rules", .ref l)]) ∧ Dt H (.ref l) (rulesD rs)
theorem BookAt.mo (C : Addr) (rs : List Rule) : Mo (BookAt C rs) := fun H H' v e ⟨a, dx, l, h1, h2, h3⟩ => ⟨a, dx, l, h1, e _ _ h2, h3.ex e⟩
def wayFs (b : V) (z : Str) (l1 l2 : Addr) : List (Str × V) := [("_book", b), ("_word", .str z), ("_words", .ref l1), ("_steps", .ref l2)]
def strsD (zs : List Str) : PyData := .list (zs.map .str)
/-- a Way at a -/
def WayAt (CB CW : Addr) (m : WayM) (H : Hp) (v : V) : Prop := ∃ a dx b l1 l2, v = .ref a ∧ H a = some (.ins CW dx (wayFs b m.z l1 l2)) ∧ BookAt CB m.rs H b ∧ Dt H (.ref l1) (strsD (wordsOf m.rs m.z m.ss)) ∧ Dt H (.ref l2) (stepsD m.ss)
theorem WayAt.mo (CB CW : Addr) (m : WayM) : Mo (WayAt CB CW m) := fun H H' v e ⟨a, dx, b, l1, l2, h1, h2, h3, h4, h5⟩ => ⟨a, dx, b, l1, l2, h1, e _ _ h2, BookAt.mo _ _ _ _ _ e h3, h4.ex e, h5.ex e⟩
end WB
namespace WB
open PySem PySem.Spec PyProof.Rows L2 Evl
theorem wordsOf_len (rs : List Rule) : ∀ (z : Str) (ss : List WStep), (wordsOf rs z ss).length = ss.length + 1
  | _, [] => rfl
  | z, s :: r => by
    show (wordsOf rs _ r).length + 1 = _
    rw [wordsOf_len rs _ r]
    rfl
theorem wordsOf_0 (rs : List Rule) (z : Str) (ss : List WStep) : (wordsOf rs z ss)[0]? = some z := by
  cases ss <;> rfl
theorem WyOk.at_ {rs : List Rule} : ∀ {z : Str} {ss : List WStep} {i : Nat} {s : WStep}, WyOk rs z ss → ss[i]? = some s →
    ∃ zi q, (wordsOf rs z ss)[i]? = some zi ∧ zi.length ≤ 1000 ∧ rs[s.2.1]? = some q ∧ canR q zi s = true ∧ (wordsOf rs z ss)[i + 1]? = some (doneR q zi s) ∧ (doneR q zi s).length ≤ 1000
  | _, [], _, _, _, h => by simp at h
  | z, s :: r, 0, s', ⟨h1, q, h2, h3, h4⟩, h => by
    have e : s = s' := by simpa using h
    subst e
    refine ⟨z, q, rfl, h1, h2, h3, ?_, h4.len⟩
    show (wordsOf rs (match rs[s.2.1]? with | some q => doneR q z s | none => z) r)[0]? = _
    rw [wordsOf_0, h2]
  | z, s :: r, i + 1, s', ⟨h1, q, h2, h3, h4⟩, h => by
    obtain ⟨zi, q', a1, a2, a3, a4, a5, a6⟩ := WyOk.at_ (i := i) (s := s') h4 (by simpa using h)
    refine ⟨zi, q', ?_, a2, a3, a4, ?_, a6⟩
    · show (wordsOf rs (match rs[s.2.1]? with | some q => doneR q z s | none => z) r)[i]? = _
      rw [h2]
      exact a1
    · show (wordsOf rs (match rs[s.2.1]? with | some q => doneR q z s | none => z) r)[i + 1]? = _
      rw [h2]
      exact a5
theorem strs_dt {H : Hp} : ∀ zs : List Str, DtAll H (zs.map V.str) (zs.map PyData.str)
  | [] => .nil
  | z :: r => .cons (.str z) (strs_dt r)
theorem take_snoc {α : Type} {xs : List α} {i : Nat} {x : α} (h : xs[i]? = some x) : xs.take (i + 1) = xs.take i ++ [x] := by
  rw [List.take_add_one, h]
  rfl
theorem atI_take {α : Type} {xs : List α} {i n : Nat} {x : α} (h : xs[i]? = some x) (hn : i < n) : atI (xs.take n) ((i : Nat) : Int) = some x := atI_nat (by rw [List.getElem?_take, if_pos hn]; exact h)
end WB

namespace WB
open PySem PySem.Spec PyProof.Rows L2 Evl
theorem putF_lt {f : Str} {v : V} : ∀ {fs : List (Str × V)} {n : Nat}, fs.length < n → (putF f v fs).length < n + 1
  | [], _, h => by show 1 < _; omega
  | (g, u) :: r, n, h => by
    show (if _ then _ else _ : List (Str × V)).length < n + 1
    split
    · exact Nat.lt_succ_of_lt h
    · have h' : r.length < n - 1 := by have : r.length + 1 < n := h; omega
      have := putF_lt (f := f) (v := v) h'
      have : (putF f v r).length + 1 < n - 1 + 1 + 1 := Nat.succ_lt_succ this
      have hn : 0 < n := Nat.lt_of_le_of_lt (Nat.zero_le _) h
      show (putF f v r).length + 1 < n + 1
      omega
theorem fs1 {f : Str} {v : V} : (putF f v []).length < 1000 := Nat.lt_of_lt_of_le (putF_lt (n := 1) Nat.zero_lt_one) (by decide)
theorem fs2 {f g : Str} {v u : V} : (putF f v (putF g u [])).length < 1000 := Nat.lt_of_lt_of_le (putF_lt (putF_lt (n := 1) Nat.zero_lt_one)) (by decide)
theorem fs3 {f g h : Str} {v u x : V} : (putF f v (putF g u (putF h x []))).length < 1000 := Nat.lt_of_lt_of_le (putF_lt (putF_lt (putF_lt (n := 1) Nat.zero_lt_one))) (by decide)
theorem way_fs (b : V) (z : Str) (l1 l2 : Addr) : wayFs b z l1 l2 = putF "_steps" (.ref l2) (putF "_words" (.ref l1) (putF "_word" (.str z) (putF "_book" b []))) := by
  have n1 : ¬ (("_book" : Str) = "_word") := by decide +kernel
  have n2 : ¬ (("_book" : Str) = "_words") := by decide +kernel
  have n3 : ¬ (("_word" : Str) = "_words") := by decide +kernel
  have n4 : ¬ (("_book" : Str) = "_steps") := by decide +kernel
  have n5 : ¬ (("_word" : Str) = "_steps") := by decide +kernel
  have n6 : ¬ (("_words" : Str) = "_steps") := by decide +kernel
  simp only [putF, if_neg n1, if_neg n2, if_neg n3, if_neg n4, if_neg n5, if_neg n6]
  rfl
end WB
/-! Labels: each letter of a word along a way by where it was made. -/
namespace WB
open PySem PySem.Spec PyProof.Rows L2 Evl
theorem cutS_toList (z : Str) (lo hi : Option Int) : (cutS z lo hi).cps.toList = (z.cps.toList.drop (HT.sIx z.length 0 lo)).take (HT.sIx z.length z.length hi - HT.sIx z.length 0 lo) := rfl
theorem str_len (z : Str) : z.length = z.cps.toList.length := rfl
theorem cutS_len (z : Str) (p q : Nat) (h : q ≤ z.length) : (cutS z (some (p : Int)) (some (q : Int))).length = q - p := by
  rw [str_len, cutS_toList, List.length_take, List.length_drop, ← str_len, HT.sIx_nat, HT.sIx_nat]
  omega
theorem cutS_lenM (z : Str) (p q : Nat) : (cutS z (some (p : Int)) (some (q : Int))).length = min q z.length - min p z.length := by
  rw [str_len, cutS_toList, List.length_take, List.length_drop, ← str_len, HT.sIx_nat, HT.sIx_nat]
  omega
theorem cutS_lo (z : Str) (p : Nat) : (cutS z none (some (p : Int))).length = min p z.length := by
  rw [str_len, cutS_toList, List.length_take, List.length_drop, ← str_len, HT.sIx_nat, HT.sIx_none]
  omega
theorem cutS_hi (z : Str) (p : Nat) : (cutS z (some (p : Int)) none).length = z.length - p := by
  rw [str_len, cutS_toList, List.length_take, List.length_drop, ← str_len, HT.sIx_nat, HT.sIx_none]
  omega
/-- where a step can be done, its source lies within the word -/
theorem can_in {q : Rule} {z : Str} {s : WStep} (h : canR q z s = true) (n : (src q s.2.2).length ≠ 0) : s.1 + (src q s.2.2).length ≤ z.length := by
  have e : cutS z (some (s.1 : Nat)) (some ((s.1 : Nat) + ((src q s.2.2).length : Nat) : Int)) = src q s.2.2 := V.str.inj (of_decide_eq_true h)
  have l := congrArg Str.length e
  rw [show ((s.1 : Nat) + ((src q s.2.2).length : Nat) : Int) = ((s.1 + (src q s.2.2).length : Nat) : Int) by omega, cutS_lenM] at l
  omega
theorem done_len {q : Rule} {z : Str} {s : WStep} (h : s.1 + (src q s.2.2).length ≤ z.length) : (doneR q z s).length = s.1 + (gol q s.2.2).length + (z.length - (s.1 + (src q s.2.2).length)) := by
  unfold doneR
  rw [app_len, app_len, cutS_lo, show ((s.1 : Nat) + ((src q s.2.2).length : Nat) : Int) = ((s.1 + (src q s.2.2).length : Nat) : Int) by omega, cutS_hi]
  omega
theorem RuOk.s0 {q : Rule} (h : RuOk q) (b : Bool) : (src q b).length ≠ 0 := by
  unfold src
  cases b
  · exact h.n2
  · exact h.n1
theorem RuOk.g0 {q : Rule} (h : RuOk q) (b : Bool) : (gol q b).length ≠ 0 := by
  unfold gol
  cases b
  · exact h.n1
  · exact h.n2
/-- step, letter of what it makes; none: of the first word -/
abbrev Lab := Option Nat × Nat
def labD (l : Lab) : PyData := .tuple [match l.1 with | none => .none | some n => .int (n : Nat), .int (l.2 : Nat)]
def srL (rs : List Rule) (s : WStep) : Nat := match rs[s.2.1]? with
  | some q => (src q s.2.2).length
  | none => 0
def goL (rs : List Rule) (s : WStep) : Nat := match rs[s.2.1]? with
  | some q => (gol q s.2.2).length
  | none => 0
theorem srL_eq {rs : List Rule} {s : WStep} {q : Rule} (h : rs[s.2.1]? = some q) : srL rs s = (src q s.2.2).length := by unfold srL; rw [h]
theorem goL_eq {rs : List Rule} {s : WStep} {q : Rule} (h : rs[s.2.1]? = some q) : goL rs s = (gol q s.2.2).length := by unfold goL; rw [h]
def givenL (rs : List Rule) (n : Nat) (s : WStep) : List Lab := (List.range (goL rs s)).map fun j => (some n, j)
def nextRow (rs : List Rule) (n : Nat) (row : List Lab) (s : WStep) : List Lab := row.take s.1 ++ givenL rs n s ++ row.drop (s.1 + srL rs s)
/-- the labels of the word at index n -/
def rowAt (rs : List Rule) (z : Str) (ss : List WStep) : Nat → List Lab
  | 0 => (List.range z.length).map fun j => (none, j)
  | n + 1 => match ss[n]? with
    | some s => nextRow rs n (rowAt rs z ss n) s
    | none => []
def takenL (rs : List Rule) (z : Str) (ss : List WStep) (n : Nat) (s : WStep) : List Lab := ((rowAt rs z ss n).drop s.1).take (srL rs s)
/-- the first number of what step n makes -/
def freshAt (rs : List Rule) (z : Str) (ss : List WStep) (n : Nat) : Nat := z.length + ((ss.take n).map (goL rs)).sum
def numL (rs : List Rule) (z : Str) (ss : List WStep) (l : Lab) : Nat := match l.1 with
  | none => l.2
  | some n => freshAt rs z ss n + l.2
theorem row_s {rs : List Rule} {z : Str} {ss : List WStep} {n : Nat} {s : WStep} (h : ss[n]? = some s) : rowAt rs z ss (n + 1) = nextRow rs n (rowAt rs z ss n) s := by
  show (match ss[n]? with | some s => nextRow rs n (rowAt rs z ss n) s | none => []) = _
  rw [h]
theorem fresh_s {rs : List Rule} {z : Str} {ss : List WStep} {n : Nat} {s : WStep} (h : ss[n]? = some s) : freshAt rs z ss (n + 1) = freshAt rs z ss n + goL rs s := by
  unfold freshAt
  rw [take_snoc h, List.map_append, List.sum_append]
  simp [Nat.add_assoc]
theorem given_num (rs : List Rule) (z : Str) (ss : List WStep) (n : Nat) (s : WStep) : (givenL rs n s).map (numL rs z ss) = (List.range (goL rs s)).map fun j => freshAt rs z ss n + j := by
  unfold givenL
  rw [List.map_map]
  rfl
/-- what a Way tells of its step n -/
structure StepAt (m : WayM) (n : Nat) (s : WStep) (q : Rule) (zi zj : Str) : Prop where
  hs : m.ss[n]? = some s
  hq : m.rs[s.2.1]? = some q
  ok : RuOk q
  z : (wordsOf m.rs m.z m.ss)[n]? = some zi
  z1 : (wordsOf m.rs m.z m.ss)[n + 1]? = some zj
  zl : zi.length ≤ 1000
  zjl : zj.length ≤ 1000
  c : s.1 + srL m.rs s ≤ zi.length
  l : zj.length = s.1 + goL m.rs s + (zi.length - (s.1 + srL m.rs s))
theorem WayM.Ok.step {m : WayM} (ok : m.Ok) {n : Nat} {s : WStep} (h : m.ss[n]? = some s) : ∃ q zi zj, StepAt m n s q zi zj := by
  obtain ⟨zi, q, a1, a2, a3, a4, a5, a6⟩ := ok.s.at_ h
  have rq := ok.b.at_ a3
  have c := can_in a4 (rq.s0 _)
  exact ⟨q, zi, _, h, a3, rq, a1, a5, a2, a6, by rw [srL_eq a3]; exact c, by rw [srL_eq a3, goL_eq a3]; exact done_len c⟩
theorem row_len {m : WayM} (ok : m.Ok) : ∀ {n : Nat} {zi : Str}, (wordsOf m.rs m.z m.ss)[n]? = some zi → (rowAt m.rs m.z m.ss n).length = zi.length
  | 0, zi, h => by
    rw [wordsOf_0] at h
    cases h
    show ((List.range m.z.length).map _).length = _
    rw [List.length_map, List.length_range]
  | n + 1, zj, h => by
    have hn : n < m.ss.length := by
      have := (List.getElem?_eq_some_iff.mp h).1
      rw [wordsOf_len] at this
      omega
    obtain ⟨q, zi, zj', st⟩ := ok.step (List.getElem?_eq_getElem hn)
    rw [row_s st.hs]
    rw [st.z1] at h
    cases h
    have il := row_len ok st.z
    unfold nextRow
    rw [List.length_append, List.length_append, List.length_take, List.length_drop, il, st.l]
    unfold givenL
    rw [List.length_map, List.length_range]
    have := st.c
    omega
theorem word_at {m : WayM} {n : Nat} (h : n ≤ m.ss.length) : ∃ zi, (wordsOf m.rs m.z m.ss)[n]? = some zi := ⟨_, List.getElem?_eq_getElem (by rw [wordsOf_len]; omega)⟩
theorem fresh_le {m : WayM} (ok : m.Ok) (n : Nat) : freshAt m.rs m.z m.ss n ≤ 1000 + 1000 * 1000 := by
  have h1 : ((m.ss.take n).map (goL m.rs)).sum ≤ (m.ss.take n).length * 1000 := by
    have : ∀ l : List WStep, (l.map (goL m.rs)).sum ≤ l.length * 1000 := fun l => by
      induction l with
      | nil => simp
      | cons s r ih =>
        have g : goL m.rs s ≤ 1000 := by
          cases h : m.rs[s.2.1]? with
          | none => unfold goL; rw [h]; exact Nat.zero_le _
          | some q => rw [goL_eq h]; exact (ok.b.at_ h).gl _
        simp only [List.map_cons, List.sum_cons, List.length_cons]
        omega
    exact this _
  have h2 : (m.ss.take n).length ≤ 1000 := by
    rw [List.length_take]
    have := ok.n
    omega
  have h3 := ok.s.len
  unfold freshAt
  omega
/-- slices of rows of numbers -/
theorem natsV_len (ns : List Nat) : (natsV ns).length = ns.length := by unfold natsV; rw [List.length_map]
theorem cutV_nn (ns : List Nat) (p q : Nat) : cutV (natsV ns) (some (p : Int)) (some (q : Int)) = natsV ((ns.drop p).take (q - p)) := by
  unfold cutV
  rw [HT.sIx_nat, HT.sIx_nat, natsV_len]
  unfold natsV
  rw [List.map_take, List.map_drop]
  by_cases h : p ≤ ns.length
  · rw [Nat.min_eq_left h]
    by_cases h2 : q ≤ ns.length
    · rw [Nat.min_eq_left h2]
    · rw [Nat.min_eq_right (by omega), List.take_of_length_le (l := ((List.map _ ns).drop p)) (by rw [List.length_drop, List.length_map]; omega), List.take_of_length_le (by rw [List.length_drop, List.length_map]; omega)]
  · rw [List.drop_eq_nil_of_le (i := p) (by rw [List.length_map]; omega), List.drop_eq_nil_of_le (i := min p ns.length) (by rw [List.length_map]; omega), List.take_nil, List.take_nil]
theorem cutD_lo (ns : List PyData) (p : Nat) : cutD ns none (some (p : Int)) = ns.take p := by
  unfold cutD
  rw [HT.sIx_nat, HT.sIx_none, List.drop_zero, Nat.sub_zero]
  by_cases h : p ≤ ns.length
  · rw [Nat.min_eq_left h]
  · rw [Nat.min_eq_right (by omega), List.take_of_length_le (Nat.le_refl _), List.take_of_length_le (by omega)]
theorem cutD_hi (ns : List PyData) (p : Nat) : cutD ns (some (p : Int)) none = ns.drop p := by
  unfold cutD
  rw [HT.sIx_nat, HT.sIx_none]
  by_cases h : p ≤ ns.length
  · rw [Nat.min_eq_left h, List.take_of_length_le (by rw [List.length_drop]; exact Nat.le_refl _)]
  · rw [Nat.min_eq_right (by omega), List.drop_length, List.drop_eq_nil_of_le (by omega), List.take_nil]
theorem cutD_nn (ns : List PyData) (p q : Nat) : cutD ns (some (p : Int)) (some (q : Int)) = (ns.drop p).take (q - p) := by
  unfold cutD
  rw [HT.sIx_nat, HT.sIx_nat]
  by_cases h : p ≤ ns.length
  · rw [Nat.min_eq_left h]
    by_cases h2 : q ≤ ns.length
    · rw [Nat.min_eq_left h2]
    · rw [Nat.min_eq_right (by omega), List.take_of_length_le (l := (ns.drop p)) (by rw [List.length_drop]; omega), List.take_of_length_le (by rw [List.length_drop]; omega)]
  · rw [List.drop_eq_nil_of_le (i := p) (by omega), List.drop_eq_nil_of_le (i := min p ns.length) (by omega), List.take_nil, List.take_nil]
/-- the labels behind a step, by their places -/
theorem next_get {rs : List Rule} {n : Nat} {row : List Lab} {s : WStep} (h : s.1 ≤ row.length) (i : Nat) : (nextRow rs n row s)[i]? = if i < s.1 then row[i]? else if i < s.1 + goL rs s then some (some n, i - s.1) else row[i - goL rs s + srL rs s]? := by
  have tl : (row.take s.1).length = s.1 := by rw [List.length_take]; omega
  have gl : (givenL rs n s).length = goL rs s := by unfold givenL; rw [List.length_map, List.length_range]
  unfold nextRow
  by_cases h1 : i < s.1
  · rw [if_pos h1, List.append_assoc, List.getElem?_append_left (by rw [tl]; exact h1), List.getElem?_take, if_pos h1]
  · rw [if_neg h1, List.append_assoc, List.getElem?_append_right (by rw [tl]; omega), tl]
    by_cases h2 : i < s.1 + goL rs s
    · rw [if_pos h2, List.getElem?_append_left (by rw [gl]; omega)]
      unfold givenL
      rw [List.getElem?_map, List.getElem?_range (by omega)]
      rfl
    · rw [if_neg h2, List.getElem?_append_right (by rw [gl]; omega), gl, List.getElem?_drop]
      congr 1
      omega
theorem row0_get {rs : List Rule} {z : Str} {ss : List WStep} {i : Nat} {l : Lab} (h : (rowAt rs z ss 0)[i]? = some l) : l = (none, i) := by
  unfold rowAt at h
  rw [List.getElem?_map] at h
  cases q : (List.range z.length)[i]? with
  | none => rw [q] at h; cases h
  | some j =>
    rw [q] at h
    have := (List.getElem?_eq_some_iff.mp q).2
    rw [List.getElem_range] at this
    rw [← this] at h
    exact (Option.some.inj h).symm
/-- where a letter at this place goes, by the steps that follow -/
def goesL (rs : List Rule) : Nat → List WStep → Nat → Lab
  | _, [], i => (none, i)
  | n, s :: r, i => if i < s.1 then goesL rs (n + 1) r i else if i < s.1 + srL rs s then (some n, i - s.1) else goesL rs (n + 1) r (i - srL rs s + goL rs s)
theorem drop_at {α : Type} {xs : List α} {n : Nat} {x : α} (h : xs[n]? = some x) : xs.drop n = x :: xs.drop (n + 1) := by
  obtain ⟨h1, h2⟩ := List.getElem?_eq_some_iff.mp h
  rw [List.drop_eq_getElem_cons h1, h2]
end WB
/-! Labels: no two alike in a row; what is taken comes back never. -/
namespace WB
open PySem PySem.Spec PyProof.Rows L2 Evl
theorem labD_eqv (a b : Lab) : PyData.eqv (labD a) (labD b) = decide (a = b) := by
  obtain ⟨a1, a2⟩ := a
  obtain ⟨b1, b2⟩ := b
  cases a1 with
  | none =>
    cases b1 with
    | none =>
      have e : PyData.eqv (labD (none, a2)) (labD (none, b2)) = (true && (((a2 : Int) == (b2 : Int)) && true)) := by simp only [labD, PyData.eqv, PyData.eqvAll]
      rw [e]
      by_cases h : a2 = b2
      · rw [h]; simp
      · rw [decide_eq_false (fun z => h (by cases z; rfl))]
        simp
        omega
    | some k =>
      have e : PyData.eqv (labD (none, a2)) (labD (some k, b2)) = (false && (((a2 : Int) == (b2 : Int)) && true)) := by simp only [labD, PyData.eqv, PyData.eqvAll]
      rw [e]
      simp
  | some n =>
    cases b1 with
    | none =>
      have e : PyData.eqv (labD (some n, a2)) (labD (none, b2)) = (false && (((a2 : Int) == (b2 : Int)) && true)) := by simp only [labD, PyData.eqv, PyData.eqvAll]
      rw [e]
      simp
    | some k =>
      have e : PyData.eqv (labD (some n, a2)) (labD (some k, b2)) = (((n : Int) == (k : Int)) && (((a2 : Int) == (b2 : Int)) && true)) := by simp only [labD, PyData.eqv, PyData.eqvAll]
      rw [e]
      by_cases h : n = k
      · by_cases h2 : a2 = b2
        · rw [h, h2]; simp
        · rw [decide_eq_false (fun z => h2 (by cases z; rfl))]
          simp
          omega
      · rw [decide_eq_false (fun z => h (by cases z; rfl))]
        simp
        intro z
        omega
theorem labD_lay (l : Lab) : (labD l).canLay0 = true := by
  obtain ⟨a, b⟩ := l
  cases a <;> simp [labD, PyData.canLay0, PyData.canLayAll0]
theorem labD_depth (l : Lab) : (labD l).depth ≤ 1 := by
  obtain ⟨a, b⟩ := l
  cases a <;> simp [labD, PyData.depth, PyData.depthAll]
theorem labD_plain (l : Lab) : plainD (labD l) = true := by
  obtain ⟨a, b⟩ := l
  cases a <;> rfl
theorem labs_lay : ∀ ls : List Lab, PyData.canLayAll0 (ls.map labD) = true
  | [] => by simp [PyData.canLayAll0]
  | l :: ls => by simp [PyData.canLayAll0, labD_lay l, labs_lay ls]
theorem labs_depth : ∀ ls : List Lab, PyData.depthAll (ls.map labD) ≤ 1
  | [] => by simp [PyData.depthAll]
  | l :: ls => by
    have h1 := labs_depth ls
    have h2 := labD_depth l
    simp only [List.map_cons, PyData.depthAll]
    omega
theorem labs_plain : ∀ ls : List Lab, plainDs (ls.map labD) = true
  | [] => rfl
  | l :: ls => by
    rw [List.map_cons]
    unfold plainDs
    rw [labD_plain, labs_plain ls]
    rfl
theorem labD_shaped (l : Lab) : SeqAt.shaped (labD l) = true := by
  show ((labD l).canLay0 && decide ((labD l).depth ≤ 64)) = true
  rw [Bool.and_eq_true]
  exact ⟨labD_lay l, decide_eq_true (by have := labD_depth l; omega)⟩
theorem labs_shaped (ls : List Lab) : SeqAt.shaped (.list (ls.map labD)) = true := by
  have h1 := labs_depth ls
  have h2 : PyData.depth (.list (ls.map labD)) ≤ 64 := by
    simp only [PyData.depth]
    omega
  show (PyData.canLay0 (.list (ls.map labD)) && decide (PyData.depth (.list (ls.map labD)) ≤ 64)) = true
  rw [Bool.and_eq_true]
  exact ⟨by simp only [PyData.canLay0]; exact labs_lay ls, decide_eq_true h2⟩
theorem nodup_map {α β : Type} {f : α → β} (hf : ∀ a b, f a = f b → a = b) : ∀ {xs : List α}, xs.Nodup → (xs.map f).Nodup
  | [], _ => List.nodup_nil
  | x :: xs, h => by
    obtain ⟨h1, h2⟩ := List.nodup_cons.mp h
    rw [List.map_cons]
    refine List.nodup_cons.mpr ⟨fun z => ?_, nodup_map hf h2⟩
    obtain ⟨y, hy, e⟩ := List.mem_map.mp z
    rw [hf _ _ e] at hy
    exact h1 hy
/-- a row's three parts -/
theorem row_cut (row : List Lab) (p c : Nat) : row = row.take p ++ ((row.drop p).take c ++ row.drop (p + c)) := by
  have e := List.take_append_drop c (row.drop p)
  rw [List.drop_drop] at e
  rw [e, List.take_append_drop]
structure RowOk (n : Nat) (row : List Lab) : Prop where
  nd : row.Nodup
  lt : ∀ l ∈ row, ∀ k, l.1 = some k → k < n
theorem given_mem {rs : List Rule} {n : Nat} {s : WStep} {l : Lab} (h : l ∈ givenL rs n s) : l.1 = some n := by
  unfold givenL at h
  obtain ⟨j, _, rfl⟩ := List.mem_map.mp h
  rfl
theorem RowOk.next {n : Nat} {row : List Lab} (h : RowOk n row) (rs : List Rule) (s : WStep) : RowOk (n + 1) (nextRow rs n row s) ∧ (∀ l ∈ (row.drop s.1).take (srL rs s), l ∉ nextRow rs n row s) ∧ (∀ l ∈ nextRow rs n row s, l ∈ row ∨ l.1 = some n) := by
  have cut := row_cut row s.1 (srL rs s)
  have nd := h.nd
  rw [cut] at nd
  obtain ⟨nA, nTB, dA⟩ := List.nodup_append.mp nd
  obtain ⟨nT, nB, dT⟩ := List.nodup_append.mp nTB
  have inA : ∀ l ∈ row.take s.1, l ∈ row := fun l m => List.mem_of_mem_take m
  have inB : ∀ l ∈ row.drop (s.1 + srL rs s), l ∈ row := fun l m => List.mem_of_mem_drop m
  have inT : ∀ l ∈ (row.drop s.1).take (srL rs s), l ∈ row := fun l m => List.mem_of_mem_drop (List.mem_of_mem_take m)
  have nG : (givenL rs n s).Nodup := by
    unfold givenL
    refine nodup_map (fun a b e => ?_) List.nodup_range
    exact (Prod.mk.inj e).2
  have fr : ∀ l ∈ row, l.1 ≠ some n := fun l m z => Nat.lt_irrefl _ (h.lt l m n z)
  have mem : ∀ l, l ∈ nextRow rs n row s → l ∈ row.take s.1 ∨ l ∈ givenL rs n s ∨ l ∈ row.drop (s.1 + srL rs s) := fun l m => by
    unfold nextRow at m
    rcases List.mem_append.mp m with q | q
    · rcases List.mem_append.mp q with q | q
      · exact .inl q
      · exact .inr (.inl q)
    · exact .inr (.inr q)
  refine ⟨⟨?_, fun l m k e => ?_⟩, fun l m z => ?_, fun l m => ?_⟩
  · unfold nextRow
    rw [List.append_assoc]
    refine List.nodup_append.mpr ⟨nA, List.nodup_append.mpr ⟨nG, nB, fun a ha b hb z => ?_⟩, fun a ha b hb z => ?_⟩
    · rw [z] at ha
      exact fr b (inB b hb) (given_mem ha)
    · rcases List.mem_append.mp hb with q | q
      · rw [← z] at q
        exact fr a (inA a ha) (given_mem q)
      · exact dA a ha b (List.mem_append.mpr (.inr q)) z
  · rcases mem l m with q | q | q
    · exact Nat.lt_succ_of_lt (h.lt l (inA l q) k e)
    · have z := given_mem q
      rw [z] at e
      cases e
      exact Nat.lt_succ_self _
    · exact Nat.lt_succ_of_lt (h.lt l (inB l q) k e)
  · rcases mem l z with q | q | q
    · exact dA l q l (List.mem_append.mpr (.inl m)) rfl
    · exact fr l (inT l m) (given_mem q)
    · exact dT l m l q rfl
  · rcases mem l m with q | q | q
    · exact .inl (inA l q)
    · exact .inr (given_mem q)
    · exact .inl (inB l q)
theorem row_ok (m : WayM) : ∀ n, n ≤ m.ss.length → RowOk n (rowAt m.rs m.z m.ss n)
  | 0, _ => ⟨by
    unfold rowAt
    exact nodup_map (fun a b e => (Prod.mk.inj e).2) List.nodup_range, fun l h k e => by
    unfold rowAt at h
    obtain ⟨j, _, rfl⟩ := List.mem_map.mp h
    cases e⟩
  | n + 1, h => by
    rw [row_s (List.getElem?_eq_getElem (show n < m.ss.length by omega))]
    exact ((row_ok m n (by omega)).next m.rs _).1
/-- what step i takes comes back never -/
theorem taken_gone (m : WayM) {i : Nat} {s : WStep} (hs : m.ss[i]? = some s) {l : Lab} (hl : l ∈ takenL m.rs m.z m.ss i s) : ∀ j, i < j → j ≤ m.ss.length → l ∉ rowAt m.rs m.z m.ss j := by
  have il : i < m.ss.length := (List.getElem?_eq_some_iff.mp hs).1
  have lk : ∀ k, l.1 = some k → k < i := fun k e => (row_ok m i (by omega)).lt l (List.mem_of_mem_drop (List.mem_of_mem_take hl)) k e
  intro j
  induction j with
  | zero => intro h; omega
  | succ j ih =>
    intro h1 h2 hm
    have hj : m.ss[j]? = some m.ss[j] := List.getElem?_eq_getElem (show j < m.ss.length by omega)
    rw [row_s hj] at hm
    by_cases e : i = j
    · subst e
      rw [hs] at hj
      cases hj
      exact ((row_ok m i (by omega)).next m.rs _).2.1 l hl hm
    · rcases ((row_ok m j (by omega)).next m.rs m.ss[j]).2.2 l hm with q | q
      · exact ih (by omega) (by omega) q
      · have := lk j q
        omega
/-- places in a row are unique -/
theorem nodup_at {α : Type} {xs : List α} (h : xs.Nodup) {i j : Nat} {x : α} (hi : xs[i]? = some x) (hj : xs[j]? = some x) : i = j := by
  obtain ⟨h1, h2⟩ := List.getElem?_eq_some_iff.mp hi
  obtain ⟨h3, h4⟩ := List.getElem?_eq_some_iff.mp hj
  exact (List.getElem_inj (h₀ := h1) (h₁ := h3) h).mp (h2.trans h4.symm)
theorem taken_get {rs : List Rule} {z : Str} {ss : List WStep} {n : Nat} {s : WStep} (j : Nat) (h : j < srL rs s) : (takenL rs z ss n s)[j]? = (rowAt rs z ss n)[s.1 + j]? := by
  unfold takenL
  rw [List.getElem?_take, if_pos h, List.getElem?_drop]
theorem taken_at {rs : List Rule} {z : Str} {ss : List WStep} {n : Nat} {s : WStep} {l : Lab} (h : l ∈ takenL rs z ss n s) : ∃ j, j < srL rs s ∧ (rowAt rs z ss n)[s.1 + j]? = some l := by
  obtain ⟨j, hj, e⟩ := List.mem_iff_getElem.mp h
  have jl : j < srL rs s := by
    unfold takenL at hj
    rw [List.length_take] at hj
    omega
  exact ⟨j, jl, by rw [← taken_get j jl, List.getElem?_eq_getElem hj, e]⟩
end WB
/-! Words put together. -/
namespace WB
open PySem PySem.Spec PyProof.Rows L2 Evl
theorem isW_iff (z : Str) : isW z = true ↔ ∀ c ∈ z.cps.toList, 97 ≤ c ∧ c ≤ 122 := by
  unfold isW
  rw [Array.all_eq_true]
  simp only [Bool.and_eq_true, decide_eq_true_eq]
  constructor
  · intro h c hc
    obtain ⟨i, hi, rfl⟩ := List.mem_iff_getElem.mp hc
    exact h i hi
  · intro h i hi
    exact h _ (List.getElem_mem (show i < z.cps.toList.length from hi))
theorem isW_app {a b : Str} (ha : isW a = true) (hb : isW b = true) : isW (a ++ b) = true := by
  rw [isW_iff] at ha hb ⊢
  intro c hc
  have e : (a ++ b).cps.toList = a.cps.toList ++ b.cps.toList := Array.toList_append
  rw [e] at hc
  rcases List.mem_append.mp hc with q | q
  · exact ha c q
  · exact hb c q
theorem isW_cut {a : Str} (ha : isW a = true) (lo hi : Option Int) : isW (cutS a lo hi) = true := by
  rw [isW_iff] at ha ⊢
  intro c hc
  rw [cutS_toList] at hc
  exact ha c (List.mem_of_mem_drop (List.mem_of_mem_take hc))
theorem str_join_w : ∀ {ys : List Str}, (∀ y ∈ ys, isW y = true) → isW (Str.join "" ys) = true
  | [], _ => isW_nil
  | [y], h => h y (List.mem_singleton.mpr rfl)
  | x :: y :: r, h => by
    show isW (x ++ "" ++ Str.join "" (y :: r)) = true
    exact isW_app (isW_app (h x (List.mem_cons_self ..)) isW_nil) (str_join_w fun z hz => h z (List.mem_cons_of_mem _ hz))
theorem join_w {ys : List Str} (h : ∀ y ∈ ys, isW y = true) : isW (Txt.join "" ys) = true := by
  have e : Txt.join "" ys = Str.join "" ys := StrLaws.glued_eq_join _ _
  rw [e]
  exact str_join_w h
theorem str_join_len : ∀ ys : List Str, (Str.join "" ys).length = (ys.map (·.length)).sum
  | [] => rfl
  | [y] => by simp [Str.join]
  | x :: y :: r => by
    show (x ++ "" ++ Str.join "" (y :: r)).length = _
    rw [app_len, app_len, str_join_len (y :: r)]
    simp [List.map_cons, List.sum_cons]
    rfl
theorem join_len (ys : List Str) : (Txt.join "" ys).length = (ys.map (·.length)).sum := by
  have e : Txt.join "" ys = Str.join "" ys := StrLaws.glued_eq_join _ _
  rw [e]
  exact str_join_len ys
theorem sum_ones {ys : List Str} (h : ∀ y ∈ ys, y.length = 1) : (ys.map (·.length)).sum = ys.length := by
  induction ys with
  | nil => rfl
  | cons y r ih =>
    rw [List.map_cons, List.sum_cons, h y (List.mem_cons_self ..), ih fun z hz => h z (List.mem_cons_of_mem _ hz), List.length_cons]
    omega
/-- one letter -/
def IsL (y : Str) : Prop := isW y = true ∧ y.length = 1
theorem lets_l {z : Str} (hz : isW z = true) {y : Str} (h : ∃ c ∈ z.cps.toList, y = ⟨#[c]⟩) : IsL y := by
  obtain ⟨c, hc, rfl⟩ := h
  refine ⟨?_, rfl⟩
  rw [isW_iff] at hz ⊢
  intro d hd
  rw [List.mem_singleton.mp (show d ∈ [c] from hd)]
  exact hz c hc
theorem isW_ok {z : Str} (h : isW z = true) : (PyData.str z).canLay0 = true := by
  show PyData.strOk z = true
  unfold PyData.strOk
  rw [Array.all_eq_true]
  intro i hi
  have := (isW_iff z).mp h z.cps[i] (Array.getElem_mem_toList hi)
  exact decide_eq_true (by omega)
theorem rules_plain : ∀ rs : List Rule, plainDs (rs.map ruleD) = true
  | [] => rfl
  | r :: rs => by
    rw [List.map_cons]
    unfold plainDs
    rw [rules_plain rs]
    rfl
theorem rules_lay : ∀ rs : List Rule, (∀ q ∈ rs, isW q.1 = true ∧ isW q.2 = true) → PyData.canLayAll0 (rs.map ruleD) = true
  | [], _ => by simp [PyData.canLayAll0]
  | r :: rs, h => by
    have h1 := isW_ok (h r (List.mem_cons_self ..)).1
    have h2 := isW_ok (h r (List.mem_cons_self ..)).2
    have e : (ruleD r).canLay0 = true := by
      unfold ruleD
      simp only [PyData.canLay0, PyData.canLayAll0] at h1 h2 ⊢
      rw [h1, h2]
      rfl
    simp [PyData.canLayAll0, e, rules_lay rs fun q hq => h q (List.mem_cons_of_mem _ hq)]
theorem rules_depth : ∀ rs : List Rule, PyData.depthAll (rs.map ruleD) ≤ 1
  | [] => by simp [PyData.depthAll]
  | r :: rs => by
    have h1 := rules_depth rs
    have h2 : (ruleD r).depth = 1 := by simp [ruleD, PyData.depth, PyData.depthAll]
    simp only [List.map_cons, PyData.depthAll]
    omega
theorem rules_shaped (rs : List Rule) (h : ∀ q ∈ rs, isW q.1 = true ∧ isW q.2 = true) : SeqAt.shaped (.list (rs.map ruleD)) = true := by
  have h1 := rules_depth rs
  have h2 : PyData.depth (.list (rs.map ruleD)) ≤ 64 := by
    simp only [PyData.depth]
    omega
  show (PyData.canLay0 (.list (rs.map ruleD)) && decide (PyData.depth (.list (rs.map ruleD)) ≤ 64)) = true
  rw [Bool.and_eq_true]
  exact ⟨by simp only [PyData.canLay0]; exact rules_lay rs h, decide_eq_true h2⟩
theorem eqv_nil {α : Type} (f : α → PyData) (xs : List α) : PyData.eqv (.list (xs.map f)) (.list []) = decide (xs = []) := by
  cases xs with
  | nil => simp [PyData.eqv, PyData.eqvAll]
  | cons x r => simp [PyData.eqv, PyData.eqvAll]
end WB
/-! Lambdas without parameters, one table at a time. -/
namespace WB
open PySem PySem.Spec PyProof.Rows L2 Evl LamX
/-- what stands at other places stays -/
def ExB (P : Addr) (H H1 : Hp) : Prop := ∀ b o, b ≠ P → H b = some o → H1 b = some o
theorem ExB.of {P : Addr} {H H1 : Hp} (e : Ex H H1) : ExB P H H1 := fun b o _ h => e b o h
theorem ExB.exm {P : Addr} {H H1 : Hp} (e : ExB P H H1) (h : H1 P ≠ none) : ExM (fun a => a = P) H H1 := ⟨fun a o n h => e a o n h, fun a h0 => by
  cases q : H a with
  | none => rfl
  | some o =>
    by_cases z : a = P
    · exact absurd (z ▸ h0) h
    · rw [e a o z q] at h0; cases h0⟩
theorem tab_no {H : Hp} {P : Addr} {q : Str} (t : TabS H P q) : H P ≠ none := by
  obtain ⟨ps, h, _⟩ := t
  rw [h]
  intro z
  cases z
section
variable {X : Cx} {pins : List (Addr × Obj)} {σ : L2.St} {H : Hp} {s : Shared}
theorem tab_grown {P c : Addr} {q : Str} {ps : Array Value} {pos : Pos} (hP : H P = some (.tbl ps)) (hc : H c = none) (ht : TriplesOk ps.toList) (ha : ∀ (p : Pos) (cv : Value), codeAmong p ps.toList = some cv → ∃ c, cv = .ref c ∧ H c = some (CodeO c q)) :
    ExB P H (upd (upd H P (.tbl (ps ++ #[rawInt pos.line, rawInt pos.col, .ref c]))) c (CodeO c q)) ∧ TabS (upd (upd H P (.tbl (ps ++ #[rawInt pos.line, rawInt pos.col, .ref c]))) c (CodeO c q)) P q := by
  have cP : c ≠ P := fun z => by rw [z, hP] at hc; cases hc
  have ex : ExB P H (upd (upd H P (.tbl (ps ++ #[rawInt pos.line, rawInt pos.col, .ref c]))) c (CodeO c q)) := fun b o n e => by
    have bc : b ≠ c := fun z => by rw [z, hc] at e; cases e
    rw [upd_ne bc, upd_ne n]
    exact e
  have el : (ps ++ #[rawInt pos.line, rawInt pos.col, .ref c]).toList = ps.toList ++ [rawInt pos.line, rawInt pos.col, .ref c] := by simp
  refine ⟨ex, _, by rw [upd_ne (Ne.symm cP), upd_same], by rw [el]; exact PySem.TriplesOk_snoc _ _ _ _ ht, fun p cv hcv => ?_⟩
  rw [el] at hcv
  rcases among_app _ ht hcv with z | z
  · obtain ⟨d, e1, e2⟩ := ha p cv z
    have dP : d ≠ P := fun w => by rw [w, hP] at e2; exact codeO_ne ps (Option.some.inj e2).symm
    exact ⟨d, e1, ex d _ dP e2⟩
  · exact ⟨c, z, upd_same⟩
/-- a lambda is made: of the tables, the maker's alone is written -/
theorem lam_mk {c P : Addr} {params : Arguments} {body : Expr} {scope : Scope} {pos : Pos} {E : Value → Shared → Prop} {Q : Value → Shared → Prop} (I : Inv X pins σ H s) (TB : TabB X.base X.mg c P) (hcode : X.env.code = .ref c)
    (hT : TabS H P (X.env.qual ++ "<lambda>")) (hdef : defaultsOf params X.env = ([], [])) (hfree : ∀ y ∈ scope.names, y.2 = .free → ∃ c, X.env.cells.lookup y.1 = some c)
    (k : ∀ (f d : Addr) (pm ctv : Value) (G : Hp) (t : Shared), Inv X pins σ G t → ExB P H G → TabS G P (X.env.qual ++ "<lambda>") →
      t.heap.get? f = some (PySem.W.kla_obj "<lambda>" (X.env.qual ++ "<lambda>") params body scope (cloFrom X.env.cells scope.names []) pm d ctv) → G f = none → f ∉ frs X.stack → G d = some (CodeO d (X.env.qual ++ "<lambda>")) → Q (.ref f) t) :
    wpAny (model X.prog X.w) X.A (eval (.Lambda params body scope pos) X.env) Q E s := by
  obtain ⟨ps, tb, tr, am⟩ := hT
  have atP : s.heap.get? P = some { cls := .none, data := .fields ps } := I.hok P _ tb
  have out : ∀ f, s.heap.objs.size ≤ f → f ∉ frs X.stack := fun f hf m => by
    rcases List.mem_cons.mp (I.stkSub _ m) with z | z
    · have lt := I.lt
      rw [← z] at lt
      exact absurd lt (Nat.not_lt.mpr hf)
    · exact I.nofs hf z
  refine PySem.W.kla_eval hdef ?_
  cases hc : codeAmong pos ps.toList with
  | some cv =>
    obtain ⟨d, rfl, hd⟩ := am pos cv hc
    refine PySem.W.kla_makeFunctionHit (c := c) (P := P) (ps := ps) (mg := X.mg) (closure_ok hfree) I.ok.glob (I.mod.glob.keeps I.bk) hcode (TB.code.keeps I.bk) atP tr hc (TB.bm.keeps I.bk) fun ctv g tk kp sz => ?_
    have J : Inv X pins σ H { s with heap := g.push (PySem.W.kla_obj "<lambda>" (X.env.qual ++ "<lambda>") params body scope (cloFrom X.env.cells scope.names []) ((X.mg "__name__").getD .none) d ctv), toks := tk } := I.kept fun b o e => Heap.get?_push_of_some _ (kp b o e)
    exact k g.objs.size d ((X.mg "__name__").getD .none) ctv H _ J (fun b o _ e => e) ⟨ps, tb, tr, am⟩ (Heap.get?_push_size _ rfl) (I.hok.fresh sz) (out _ sz) hd
  | none =>
    refine PySem.W.kla_makeFunction (c := c) (P := P) (ps := ps) (mg := X.mg) (closure_ok hfree) I.ok.glob (I.mod.glob.keeps I.bk) hcode (TB.code.keeps I.bk) atP tr hc TB.gP (TB.bm.keeps I.bk) fun d ctv g tk kp ge lt rec tab => ?_
    obtain ⟨d', oc, vs, t, e, hoc, hdat, hv⟩ := rec
    cases e
    have fr : H d = none := I.hok.fresh ge
    have big : s.heap.objs.size ≤ g.objs.size := by omega
    obtain ⟨g1, g2⟩ := tab_grown (pos := pos) tb fr tr am
    have J := inv_table (t' := tk) (q := X.env.qual ++ "<lambda>") (more := #[rawInt pos.line, rawInt pos.col, .ref d]) (h' := g.push (PySem.W.kla_obj "<lambda>" (X.env.qual ++ "<lambda>") params body scope (cloFrom X.env.cells scope.names []) ((X.mg "__name__").getD .none) d ctv)) I tb
      (fun b o n e => Heap.get?_push_of_some _ (kp b o n e)) (Heap.get?_push_of_some _ tab) ge ⟨oc, vs, t, Heap.get?_push_of_some _ hoc, hdat, hv⟩
    refine k g.objs.size d ((X.mg "__name__").getD .none) ctv _ _ J g1 g2 (Heap.get?_push_size _ rfl) ?_ (out _ big) upd_same
    have ne1 : g.objs.size ≠ d := by omega
    have ne2 : g.objs.size ≠ P := fun z => by
      have lt := Heap.lt_size atP
      rw [← z] at lt
      exact absurd lt (Nat.not_lt.mpr big)
    rw [upd_ne ne1, upd_ne ne2]
    exact I.hok.fresh big
end
/-- x(lambda: body): what is asked -/
def tLamB (P : Addr) (q : Str) (TT : (XK → Hp → VK → Prop) → Hp → VK → Prop) (t : XK → TE) : TE := fun σ H Q => TabS H P q ∧ ∀ G, ExB P H G → TabS G P q → TT (fun E H' Q' => t E σ H' Q') G Q
section
variable {X : Cx}
theorem pe_lamB {TT : (XK → Hp → VK → Prop) → Hp → VK → Prop} {x a : Str} {g c P : Addr} {k : Nat} {pg : Arguments} {bg : List Stmt} {sg : Scope} {fd : FuncData} {Ng : List Str} {params : Arguments} {body : Expr} {scope : Scope} {t : XK → TE} {p lpos pos : Pos}
    (hg : Gl X x) (hm : X.mg x = some (.ref g)) (F : FunD X.K x x pg bg sg [] [] g fd) (hb : L2.Binds X.K fd [a] []) (Sg : FnScope Ng [a] sg) (hNg : Ng[0]? = some a) (hva : Vis sg a)
    (hG : ∀ cdv, GivesTo X Ng x sg g cdv bg a (X.env.qual ++ "<lambda>") TT)
    (TB : TabB X.base X.mg c P) (hcode : X.env.code = .ref c) (hr : Room (k + 2) X.A) (L : LamS X.env.scope scope) (hdef : defaultsOf params X.env = ([], []))
    (hbind : ∀ (q : Str) (cl : List (Str × Addr)) (pm cv ctv : Value), bindArgs (PySem.W.kla_fn "<lambda>" q params body scope cl pm cv ctv) ⟨[], []⟩ = pure [])
    (hbody : ∀ (A : Around) (outer : List Env) (s : Shared) (H : Hp) (E : XK) (f c' : Addr), Room k (A.deeper (lamEnv X scope s.heap.objs.size f c')) → PE (lamCx X A outer s H E scope f c') body (t E))
    (hdb : (x == ("__debug__" : Str)) = false := by decide) (hd : (a == ("__debug__" : Str)) = false := by decide) (hcd : (a == ("__classdict__" : Str)) = false := by decide) :
    PE X (.Call (.Name x p) [.Lambda params body scope lpos] [] pos) (tLamB P (X.env.qual ++ "<lambda>") TT t) := by
  obtain ⟨oc, od, dV, kV, doc, pm, an, cdv, ct, osl, rfl, lk, hcg, _, _⟩ := F.ex
  refine ⟨fun pins s σ H Q I h => ?_⟩
  obtain ⟨hT, h⟩ := h
  refine wpAny_Call_Name_kw (ld_glob I hg hm ?_ hdb)
  refine PySem.W.callWith_K (h₀ := X.base) I.ok.mod.kin F.kp ?_ (by rfl) (by rfl)
  show wpAny _ _ (spliced ((false, eval (.Lambda params body scope lpos) X.env) :: backTo pos (starEach [] X.env))) _ _ s
  refine Calls.spliced_cons (lam_mk I TB hcode hT hdef (L.has I.ok) fun f d pm' ctv G t' J eN T1 hf hfn hfr hco => Calls.spliced_nil ⟨J.kIn, ?_⟩)
  refine wpAny_call (codeAny_mono (run_ofS (CX := C8.CX0) (Q := Q) (E := C8.E0) (outer := X.stack) (N := Ng) (ps := [a]) (us := [.ref f]) (vs := [.ref f]) lk hcg Sg hr J.env0 (hb t' [.ref f] J.kIn rfl) (.cons rfl .nil) rfl fun hr' => ?_) fun r s2 hq => ?_)
  · obtain ⟨u, hu, hq'⟩ := hG cdv f d t' G Q (fun E H' Q' => t E σ H' Q') (fun W pn xe E p1 p2 tk hW => pe_act (i := 0) J L hf hfn hfr (hbind _ _ _ _ _) tk hW hr' (fun A outer s H hr2 => hbody A outer s H E f d hr2) hNg hva hd hcd) hco (h G eN T1)
    exact ⟨u, hu.nox, hq'⟩
  · cases r with
    | error e => exact (show False from hq).elim
    | ok fl =>
      cases fl with
      | ret u => exact J.after hq
      | next => exact False.elim hq
      | brk => exact False.elim hq
      | cont => exact False.elim hq
end
/-! ### a def whose code object is known -/
section
variable {P : Program} {w : World} {K : PySem.W.Frag} {mg : Str → Option Value} {base : Heap}
theorem fun_okC {CX : CXT} {N ps : List Str} {k : Nat} {sp : Sp} {x qual : Str} {params : Arguments} {body : List Stmt} {scope : Scope} {dvs : List V} {kws : List (Str × V)} {p : Str × Option Str} {fd : FuncData} (F : FunD K x qual params body scope dvs kws (He.fAd K p) fd) (S : FnScope N ps scope) (len : ∀ vs H Q E, sp vs H Q E → vs.length = ps.length)
    (hbody : ∀ (A : Around) (outer : List Env) (s : Shared) (H : Hp) (vs : List V) (Q : VK) (E : XK), Room k (A.deeper (envOfC qual scope s.heap.objs.size (He.fAd K p) (.ref (He.codeOf K p)))) → sp vs H Q E →
      ∃ t, PSs (cxOf CX P w K mg base N qual scope (He.fAd K p) (.ref (He.codeOf K p)) A outer s H E) body t ∧ t { nx := fun _ H' => Q .non H', rt := Q } (start N vs) H) : FnOk P w K mg base CX (k + 1) (He.fAd K p) fd ps sp := by
  obtain ⟨oc, od, dV, kV, doc, pm, an, cdv, ct, osl, rfl, lk, hcd, _, _⟩ := F.ex
  obtain ⟨c, rfl⟩ := He.codeIn_ref hcd
  have e := He.codeOf_eq (p := p) lk rfl
  exact fn_of lk hcd S len fun A outer s H vs Q E hr hsp => by
    rw [← e]
    exact hbody A outer s H vs Q E (by rw [e]; exact hr) hsp
end
end WB
/-! enumerate of a tuple; targets that take lists and tuples. -/
namespace WB
open PySem PySem.Spec PyProof.Rows L2 Evl
theorem enumT_meets (l : Addr) (items : Array Value) (n : Nat) (dct : Option Addr) (sl : Array (Option Value)) :
    Meets (Builtin.«enumerate.__new__» ⟨[.type "enumerate", .ref l], []⟩) (fun _ R s => s.heap.get? l = some { cls := .type "tuple", dict := dct, data := .seq items n, slots := sl } ∧
      R (.ok (.ret (.ref (s.heap.push { cls := .type "tuple_iterator", data := .fields #[.ref l, .int 0 0] }).objs.size)))
        { s with heap := (s.heap.push { cls := .type "tuple_iterator", data := .fields #[.ref l, .int 0 0] }).push { cls := .type "enumerate", data := .fields #[.none, .bool false, .ref s.heap.objs.size, rawInt 0, .none, .none] } }) :=
  .of_wp fun prog w A R s h => by
    obtain ⟨hp, g, d, tk, os⟩ := s
    obtain ⟨hl, h⟩ := h
    have sub := sub_enumerate
    have isT : Heap.IsTuple (Shared.heap ⟨hp, g, d, tk, os⟩) l items := ⟨_, hl, rfl, n, rfl⟩
    wp_walk using AutoSeq1.wpAny_loadPart' hl
    refine wpAny_stack_any fun st => wpAny_pure ?_
    split
    · rename_i c _ _ _ _ _
      cases (c == Value.type "enumerate") <;>
      · wp_walk using AutoSeq1.wpAny_loadPart' hl, wpAny_pyIter_tuple isT
        exact ⟨_, rfl, h⟩
    · wp_walk using AutoSeq1.wpAny_loadPart' hl, wpAny_pyIter_tuple isT
      exact ⟨_, rfl, h⟩
theorem enumT_call {prog : Program} {w : World} {A : Around} {E : Value → Shared → Prop} {s : Shared} {l : Addr} {items : Array Value} {Q : Value → Shared → Prop} (isT : s.heap.IsTuple l items)
    (k : ∀ g, IsEnum g (s.heap.objs.size + 1) s.heap.objs.size 0 .none → g.IsTupleIter s.heap.objs.size l 0 → g.objs.size = s.heap.objs.size + 2 →
      (∀ b o, s.heap.get? b = some o → g.get? b = some o) → Q (.ref (s.heap.objs.size + 1)) { s with heap := g }) :
    wpAny (model prog w) A (call (.type "enumerate") [.ref l]) Q E s := by
  obtain ⟨⟨c, dct, dt, sl⟩, hl, hc, n, hd⟩ := isT
  replace hc : c = .type "tuple" := hc
  replace hd : dt = .seq items n := hd
  subst hc hd
  refine callType_new F.called_enumerate (by decide) (F.typeCall_enumerate_1 _) (F.newCall_enumerate_1 _) (fun obj => F.args_object_init_2 obj _) F.entry_enumerate_new (enumT_meets l items n dct sl) ⟨hl, ?_⟩
  have sz : (s.heap.push { cls := .type "tuple_iterator", data := .fields #[.ref l, .int 0 0] }).objs.size = s.heap.objs.size + 1 := Heap.size_push ..
  show _ ∧ _
  rw [sz]
  have en := Heap.get?_push_size (s.heap.push { cls := .type "tuple_iterator", data := .fields #[.ref l, .int 0 0] }) (o := { cls := .type "enumerate", data := .fields #[.none, .bool false, .ref s.heap.objs.size, rawInt 0, .none, .none] }) rfl
  rw [sz] at en
  exact ⟨⟨_, en, rfl⟩, k _ en ⟨_, Heap.get?_push_of_some _ (Heap.get?_push_size _ rfl), rfl, rfl⟩ (by rw [Heap.size_push, sz]) fun b o x => Heap.get?_push_of_some _ (Heap.get?_push_of_some _ x)⟩
/-- the tuple at a, each item in a new pair with its number -/
def ItEt (K : PySem.W.Frag) (a : Addr) : It :=
  ⟨fun i H => ∃ (xs : List V) (x : V), SqT K H a xs ∧ xs[i]? = some x, fun i H v H' => ∃ T x, v = .ref T ∧ H T = none ∧ H' = upd H T (.tup [.int (i : Nat), x]) ∧ ∀ xs, SqT K H a xs → xs[i]? = some x, fun i H => ∃ xs : List V, SqT K H a xs ∧ xs.length ≤ i⟩
theorem turn_enumT {P : Program} {w : World} {K : PySem.W.Frag} {elts : List Expr} {kk : Nat} {tpos : Pos} (a e it : Addr) (nea : a ≠ it) (nee : a ≠ e) :
    Turn P w K (.Tuple elts kk tpos) (ItEt K a) [e, it] e (fun i h => (∃ old, IsEnum h e it ((i : Nat) : Int) old) ∧ h.IsTupleIter it a i ∧ e ≠ it) where
  mem := by simp
  obj := fun i h st b hb => by
    obtain ⟨⟨old, he⟩, ⟨o, ho, hc, hd⟩, _⟩ := st
    rcases (show b = e ∨ b = it by simpa using hb) with z | z
    · rw [z]; exact ⟨_, he, fun v q => nomatch q⟩
    · rw [z]; exact ⟨o, ho, fun v q => by rw [hd] at q; cases q⟩
  keep := fun i h h' st k => let ⟨⟨old, he⟩, hi, hne⟩ := st; ⟨⟨old, k e (by simp) _ he⟩, hi.at fun o q => k it (by simp) o q, hne⟩
  item := by
    intro X hP hw hK hc i pins s σ H E I hf st hg
    subst hP hw hK
    obtain ⟨⟨old, he⟩, hit, hne⟩ := st
    obtain ⟨xs, x, hq, hx⟩ := hg
    obtain ⟨its, rv, p, hz⟩ := I.tuple hq
    obtain ⟨u, hu, ru⟩ := rv.get hx
    have lx := (List.getElem?_eq_some_iff.mp hx).1
    have hel : e < s.heap.objs.size := Heap.lt_size he
    have hil : it < s.heap.objs.size := by obtain ⟨_, q, _⟩ := hit; exact Heap.lt_size q
    have len := rv.length
    refine wpAny_pyNext_enum_itemD (n := its.toArray.size) (Draws.tuple (show X.A.in1.handled = none from I.ok.hd hc) it a nea its.toArray) he ⟨hit, show s.heap.IsTuple a its.toArray from p⟩ (by simp; omega) hne (by simp [hne, Ne.symm nee]) fun y h' tk hP ho hst hT hsz hk => ?_
    obtain ⟨hit', _⟩ := hst
    have ey : y = u := by
      have e1 : its.toArray[i]? = some y := hP
      have e2 : its.toArray[i]? = some u := by simpa using hu
      rw [e1] at e2
      exact Option.some.inj e2
    subst ey
    refine ⟨_, rfl, wpAny_letOwnedTupleGo_enum (s := { s with heap := h', toks := tk + 1 }) ho fun h'' he' sb => ?_⟩
    have hT2 : h''.get? s.heap.objs.size = some { cls := .type "tuple", data := .seq #[.int i tk, y] } := (sb.2 _ (Nat.ne_of_gt hel)).trans hT
    have new : ObjOk X.prog X.w (upd H s.heap.objs.size (.tup [.int (i : Nat), x])) h'' s.heap.objs.size (.tup [.int (i : Nat), x]) :=
      ⟨by show 2 ≤ sizeLine; decide, [.int i tk, y], .cons ⟨_, rfl⟩ (.cons ru .nil), ⟨_, hT2, rfl, _, rfl⟩⟩
    have I1 : Inv X pins σ (upd H s.heap.objs.size (.tup [.int (i : Nat), x])) { s with heap := h'', toks := tk + 1 } :=
      I.turnedNew (ch := [e, it]) (fun b ob hb q => (sb.2 b (fun z => hb (by simp [z]))).trans (hk b ob (fun z => hb (by simp [z])) (fun z => hb (by simp [z])) q)) hf (Nat.le_refl _) new
    refine ⟨.ref s.heap.objs.size, _, I1, rfl, ⟨_, x, rfl, I.hok.fresh (Nat.le_refl _), rfl, fun ys hy => by rw [I.tuple_inj hy hq]; exact hx⟩, ⟨⟨y, ?_⟩, hit'.at fun o q => (sb.2 it (Ne.symm hne)).trans q, hne⟩, fun b hb => ?_⟩
    · have e1 : ((i + 1 : Nat) : Int) = (i : Int) + 1 := by omega
      rw [e1]; exact he'
    · have hb' : b < s.heap.objs.size := by
        rcases (show b = e ∨ b = it by simpa using hb) with z | z
        · rw [z]; exact hel
        · rw [z]; exact hil
      rw [upd_ne (Nat.ne_of_lt hb')]
      exact (hf b hb).1
  done := by
    intro X hP hw hK hc i pins s σ H E I hf st hg
    subst hP hw hK
    obtain ⟨⟨old, he⟩, hit, hne⟩ := st
    obtain ⟨xs, hq, hx⟩ := hg
    obtain ⟨its, rv, p, hz⟩ := I.tuple hq
    obtain ⟨f0, f1, f2, f3, f4, f5⟩ := hf it (by simp)
    have len := rv.length
    have fin : its.toArray[i]? = none := by simp; omega
    have hT : s.TypeIs (.ref e) "enumerate" := ⟨_, he, rfl⟩
    unfold pyNext
    refine wpAny_bind (wpAny_attempt (wpAny_callSpecial?_slot (name := Str.ofString "__next__") hT F.slot_enumerate_next
      (wpAny_call_entry F.slot_enumerate_next hT F.entry_enumerate_next ?_ (F.args_enumerate_next_1 _))))
    show wpAny _ _ (field (.ref e) 2 >>= _) _ _ _
    refine wpAny_bind (wpAny_field he rfl (x := .ref it) rfl ?_)
    refine wpAny_bind (wpAny_nextOf_tuple_end (show X.A.in1.handled = none from I.ok.hd hc) hit (show s.heap.IsTuple a its.toArray from p) fin fun h' x he' hx' => ?_)
    obtain ⟨o, ho, hc'⟩ := hx'
    refine wpAny_bind (wpAny_isInstance (T := "StopIteration") (b := true) ⟨o, ho, hc'⟩ isSubtype_stop ?_)
    exact wpAny_pure ⟨rfl, I.turned (t' := s.toks) (fun b o hb q => he' b o hb q) f0 f1 f3 f4 f5⟩
  self := fun A i s Q E st h => let ⟨⟨_, he⟩, _⟩ := st; wpAny_pyIter_enum he h
def iEnA (K : PySem.W.Frag) (ta : TA) : TI := fun σ H R => ta σ H fun vs H1 => ∃ a, vs = [.ref a] ∧ ((∃ xs, SqL K H1 a xs ∧ R (Ite K a) H1) ∨ ∃ xs, SqT K H1 a xs ∧ R (ItEt K a) H1)
theorem pi_enA {X : Cx} {K : PySem.W.Frag} {e : Expr} {ta : TA} {p pos tpos : Pos} {elts : List Expr} {kk : Nat} (hK : X.K = K) (hg : Gl X "enumerate") (hm : X.mg "enumerate" = none) (ha : PA X [e] ta) (hs : starEach [e] X.env = [(false, eval e X.env)] := by rfl) :
    PI X (.Tuple elts kk tpos) (.Call (.Name "enumerate" p) [e] [] pos) (iEnA K ta) := by
  subst hK
  refine ⟨fun pins s σ H R I h => ?_⟩
  refine Call_ (ld_blt I hg hm boot_enumerate (PyProof.Rows.callWith_type1 (thn (ha.run pos pins s σ H _ I h) fun us s1 ⟨vs, H1, I1, r1, q1⟩ => ?_) hs rfl))
  obtain ⟨a, ex, q1⟩ := q1
  subst ex
  cases r1 with
  | cons r rr =>
    cases rr
    cases r
    have two : ∀ b, b ∈ [s1.heap.objs.size + 1, s1.heap.objs.size] → FpOk X pins H1 b := fun b hb => by
      have le : s1.heap.objs.size ≤ b := by
        rcases (show b = s1.heap.objs.size + 1 ∨ b = s1.heap.objs.size by simpa using hb) with z | z <;> rw [z]
        · exact Nat.le_add_right _ _
        · exact Nat.le_refl _
      exact I1.fpOk le (I1.hok.fresh le)
    rcases q1 with ⟨xs, hq, q⟩ | ⟨xs, hq, q⟩
    · obtain ⟨its, rv, p', hz⟩ := I1.list hq
      refine call_enumerate_list p'.isList fun h' he hit hsz hk => wpAny_pyIter_enum he ?_
      have I2 : Inv X pins σ H1 { s1 with heap := h' } := I1.kept (t' := s1.toks) hk
      exact ⟨s1.heap.objs.size + 1, [s1.heap.objs.size + 1, s1.heap.objs.size], _, _, H1, rfl, I2, turn_enum a (s1.heap.objs.size + 1) s1.heap.objs.size, ⟨⟨.none, he⟩, hit, Nat.succ_ne_self _⟩, two, q⟩
    · obtain ⟨its, rv, p', hz⟩ := I1.tuple hq
      obtain ⟨o1, ho1, _⟩ := id p'
      have la : a < s1.heap.objs.size := Heap.lt_size ho1
      refine enumT_call (show s1.heap.IsTuple a its.toArray from p') fun h' he hit hsz hk => wpAny_pyIter_enum he ?_
      have I2 : Inv X pins σ H1 { s1 with heap := h' } := I1.kept (t' := s1.toks) hk
      exact ⟨s1.heap.objs.size + 1, [s1.heap.objs.size + 1, s1.heap.objs.size], _, _, H1, rfl, I2, turn_enumT a (s1.heap.objs.size + 1) s1.heap.objs.size (Nat.ne_of_lt la) (Nat.ne_of_lt (Nat.lt_succ_of_lt la)), ⟨⟨.none, he⟩, hit, Nat.succ_ne_self _⟩, two, q⟩
section
variable {X : Cx} {es : List Expr} {kk : Nat} {pos : Pos} {tg : Expr} {g1 g2 : TG}
theorem pg_or (h1 : PG X tg g1) (h2 : PG X tg g2) : PG X tg (fun v σ H Q => g1 v σ H Q ∨ g2 v σ H Q) := ⟨fun pins s σ H v u Q I r h => by
  rcases h with h | h
  · exact h1.run pins s σ H v u Q I r h
  · exact h2.run pins s σ H v u Q I r h⟩
/-- a target of several names: a tuple or a list -/
def gAny (K : PySem.W.Frag) (n : Nat) (t : TGs) : TG := fun v σ H Q => gTup K n t v σ H Q ∨ gUnl K n t v σ H Q
theorem pg_any {K : PySem.W.Frag} {t : TGs} {n : Nat} (hK : X.K = K) (hc : X.calm = true) (h : PGs X es t)
    (hn : (assignEach es X.env).length = n := by rfl) (hst : (assignEach es X.env).findIdx? (·.1) = none := by rfl) : PG X (.Tuple es kk pos) (gAny K n t) := by
  subst hK
  exact pg_or (pg_tup hc h hn hst) (pg_unl hc h hn hst)
end
end WB
/-! dict(zip(text, list)). -/
namespace WB
open PySem PySem.Spec PyProof.Rows L2 Evl
section
variable {prog : Program} {w : World} {A : Around} {E : Value → Shared → Prop} {s : Shared} {z TI TO T i1 i2 : Addr} {fp1 fp2 : List Addr} {n1 n2 i : Nat} {P1 P2 : Nat → Value → Prop} {St1 St2 : Nat → Heap → Prop} {f : Bool} {oT : Obj}
/-- the next pair, while the one given out before is still there -/
theorem zipH_item {Q : Option Value → Shared → Prop} (S : ZipSep2 z TI TO i1 i2 fp1 fp2) (D1 : Draws prog w A.in1 i1 fp1 n1 P1 St1) (D2 : Draws prog w A.in1 i2 fp2 n2 P2 St2)
    (hz : IsZipHeld s.heap z TI TO T f) (hT : s.heap.get? T = some oT) (hTI : IsTupOf2 s.heap TI (.ref i1) (.ref i2)) (st1 : St1 i s.heap) (st2 : St2 i s.heap) (l1 : i < n1) (l2 : i < n2)
    (k : ∀ x y g tk, P1 i x → P2 i y → IsZipHeld g z TI TO T true → St1 (i + 1) g → St2 (i + 1) g → IsTupOf2 g s.heap.objs.size x y →
      (∀ c o, c ≠ z → c ≠ i1 → c ≠ i2 → s.heap.get? c = some o → g.get? c = some o) → Q (some (.ref s.heap.objs.size)) { s with heap := g, toks := tk }) :
    wpAny (model prog w) A (pyNext (.ref z)) Q E s := by
  have ty : s.TypeIs (.ref z) "zip" := ⟨_, hz, rfl⟩
  have core : wpAny (model prog w) A.in1 (Builtin.«zip.__next__» ⟨[.ref z], []⟩) (fun fin s' => ∃ v, fin = .done (.ret v) ∧ wpAny (model prog w) A (pure (some v)) Q E s') (fun e s' => False) s := by
    obtain ⟨hp, g0, d, tk0, os⟩ := s
    show wpAny _ _ (field (.ref z) 2 >>= _) _ _ _
    refine wpAny_bind (wpAny_field hz rfl (x := .bool false) rfl ?_)
    show wpAny _ _ (field (.ref z) 3 >>= _) _ _ _
    refine wpAny_bind (wpAny_field hz rfl (x := .ref TI) rfl (wpAny_bind (wpAny_seqItems hTI rfl ?_)))
    show wpAny _ _ (Builtin.SmallTypes.ownedTupleIsFree (.ref z) >>= _) _ _ _
    refine wpAny_bind (wpAny_tupleHeld_zip hz hT fun a hza hsa => ?_)
    replace hsa : Heap.SameBut z hp a := hsa
    simp only [Bool.false_eq_true, if_false]
    refine wpAny_bind ?_
    rw [← Array.forIn_toList]
    simp only [List.forIn_cons, List.forIn_nil]
    refine wpAny_bind (wpAny_bind (wpAny_holding ?_))
    show wpAny _ _ (Builtin.SmallTypes.nextOf (.ref i1) >>= _) _ _ _
    refine wpAny_bind (D1.item i _ _ _ l1 (D1.over st1 hsa S.zf1) fun x b tk1 hx sb hsb => wpAny_pure (wpAny_pure ?_))
    replace hsb : Heap.SameBut i1 a b := hsb
    refine wpAny_bind (wpAny_bind (wpAny_holding ?_))
    show wpAny _ _ (Builtin.SmallTypes.nextOf (.ref i2) >>= _) _ _ _
    refine wpAny_bind (D2.item i _ _ _ l2 (D2.over (D2.over st2 hsa S.zf2) hsb S.sep1_2) fun y c tk2 hy sc hsc => wpAny_pure (wpAny_pure (wpAny_pure ?_)))
    replace hsc : Heap.SameBut i2 b c := hsc
    show wpAny _ _ (newTuple [x, y] >>= _) _ _ _
    refine wpAny_bind (wpAny_newTuple ?_)
    have sz : c.objs.size = hp.objs.size := by rw [hsc.1, hsb.1, hsa.1]
    have zc : IsZipHeld c z TI TO T true := hsc.extBut _ _ S.zi2 (hsb.extBut _ _ S.zi1 hza)
    have kp : ∀ e o, e ≠ z → e ≠ i1 → e ≠ i2 → hp.get? e = some o → c.get? e = some o := fun e o e1 e2 e3 q => hsc.extBut _ _ e3 (hsb.extBut _ _ e2 (hsa.extBut _ _ e1 q))
    have tup : IsTupOf2 (c.push { cls := .type "tuple", data := .seq #[x, y] }) c.objs.size x y := Heap.get?_push_size _ rfl
    refine wpAny_pure ⟨_, rfl, wpAny_pure ?_⟩
    show Q (some (.ref c.objs.size)) _
    rw [sz] at tup ⊢
    exact k x y _ tk2 hx hy (Heap.get?_push_of_some _ zc) (D1.frame _ _ _ (D1.over sb hsc S.sep2_1) fun e _ o q => Heap.get?_push_of_some _ q) (D2.frame _ _ _ sc fun e _ o q => Heap.get?_push_of_some _ q) tup fun e o e1 e2 e3 q => Heap.get?_push_of_some _ (kp e o e1 e2 e3 q)
  unfold pyNext
  exact wpAny_bind (wpAny_attempt (wpAny_callSpecial?_slot (name := Str.ofString "__next__") ty F.slot_zip_next (wpAny_call_entry F.slot_zip_next ty F.entry_zip_next (wpAny_mono core (fun _ _ q => q) fun _ _ q => q.elim) (F.args_zip_next_1 _))))
theorem zipH_end {Q : Option Value → Shared → Prop} (S : ZipSep2 z TI TO i1 i2 fp1 fp2) (D1 : Draws prog w A.in1 i1 fp1 n1 P1 St1) (D2 : Draws prog w A.in1 i2 fp2 n2 P2 St2)
    (hz : IsZipHeld s.heap z TI TO T f) (hT : s.heap.get? T = some oT) (hTI : IsTupOf2 s.heap TI (.ref i1) (.ref i2)) (st1 : St1 i s.heap) (st2 : St2 i s.heap) (l1 : i ≤ n1) (l2 : i ≤ n2) (hend : i = n1 ∨ i = n2)
    (k : ∀ g tk, (∀ c o, c ≠ z → c ≠ i1 → c ≠ i2 → s.heap.get? c = some o → g.get? c = some o) → Q none { s with heap := g, toks := tk }) :
    wpAny (model prog w) A (pyNext (.ref z)) Q E s := by
  have ty : s.TypeIs (.ref z) "zip" := ⟨_, hz, rfl⟩
  have core : wpAny (model prog w) A.in1 (Builtin.«zip.__next__» ⟨[.ref z], []⟩) (fun fin s' => False) (fun e s' => ∃ a g tk, e = .ref a ∧ s' = { s with heap := g, toks := tk } ∧ (∀ c o, c ≠ z → c ≠ i1 → c ≠ i2 → s.heap.get? c = some o → g.get? c = some o) ∧ ∃ o, g.get? a = some o ∧ o.cls = .type "StopIteration") s := by
    obtain ⟨hp, g0, d, tk0, os⟩ := s
    show wpAny _ _ (field (.ref z) 2 >>= _) _ _ _
    refine wpAny_bind (wpAny_field hz rfl (x := .bool false) rfl ?_)
    show wpAny _ _ (field (.ref z) 3 >>= _) _ _ _
    refine wpAny_bind (wpAny_field hz rfl (x := .ref TI) rfl (wpAny_bind (wpAny_seqItems hTI rfl ?_)))
    show wpAny _ _ (Builtin.SmallTypes.ownedTupleIsFree (.ref z) >>= _) _ _ _
    refine wpAny_bind (wpAny_tupleHeld_zip hz hT fun a hza hsa => ?_)
    replace hsa : Heap.SameBut z hp a := hsa
    simp only [Bool.false_eq_true, if_false]
    refine wpAny_bind ?_
    rw [← Array.forIn_toList]
    simp only [List.forIn_cons, List.forIn_nil]
    refine wpAny_bind (wpAny_bind (wpAny_holding ?_))
    show wpAny _ _ (Builtin.SmallTypes.nextOf (.ref i1) >>= _) _ _ _
    by_cases q : i = n1
    · refine wpAny_bind (D1.done ⟨a, g0, d, tk0, os⟩ _ _ (q ▸ D1.over st1 hsa S.zf1) fun b e hb he => ?_)
      exact ⟨e, b, tk0, rfl, rfl, fun c o c1 c2 c3 x => hb _ _ c2 (hsa.extBut _ _ c1 x), he⟩
    · have q2 : i = n2 := hend.resolve_left q
      refine wpAny_bind (D1.item i _ _ _ (by omega) (D1.over st1 hsa S.zf1) fun x b tk1 hx sb hsb => wpAny_pure (wpAny_pure ?_))
      replace hsb : Heap.SameBut i1 a b := hsb
      refine wpAny_bind (wpAny_bind (wpAny_holding ?_))
      show wpAny _ _ (Builtin.SmallTypes.nextOf (.ref i2) >>= _) _ _ _
      refine wpAny_bind (D2.done ⟨b, g0, d, tk1, os⟩ _ _ (q2 ▸ D2.over (D2.over st2 hsa S.zf2) hsb S.sep1_2) fun c e hc he => ?_)
      exact ⟨e, c, tk1, rfl, rfl, fun v o c1 c2 c3 x => hc _ _ c3 (hsb.extBut _ _ c2 (hsa.extBut _ _ c1 x)), he⟩
  unfold pyNext
  refine wpAny_bind (wpAny_attempt (wpAny_callSpecial?_slot (name := Str.ofString "__next__") ty F.slot_zip_next
    (wpAny_call_entry F.slot_zip_next ty F.entry_zip_next (wpAny_mono core (fun _ _ q => q.elim) fun e s' q => ?_) (F.args_zip_next_1 _))))
  obtain ⟨a, g, tk, rfl, rfl, kp, o, ho, hc⟩ := q
  refine wpAny_bind (wpAny_isInstance (T := "StopIteration") (b := true) ⟨o, ho, hc⟩ isSubtype_stop ?_)
  exact wpAny_pure (k g tk kp)
end
theorem strit_at {h h' : Heap} {it : Addr} {T : String} {x : Str} {t : Tok} {i : Nat} (a : h.IsStrIter it T x t i) (k : ∀ o, h.get? it = some o → h'.get? it = some o) : h'.IsStrIter it T x t i :=
  let ⟨o, e, r⟩ := a; ⟨o, k o e, r⟩
/-- zip(text, list) as dict's argument -/
theorem pairs_zipTL {prog : Program} {w : World} (z TI TO i1 i2 l : Addr) (x : Str) (t : Tok) (ys : Array Value) (hli : l ≠ i2) (S : ZipSep2 z TI TO i1 i2 [i1] [i2, l]) :
    PairArg prog w "zip" z [z, TI, TO, i1, i2, l] [z, TO, i1, i2] (min x.cps.size ys.size) (fun i k v => (∃ c u, x.cps[i]? = some c ∧ k = .str ⟨#[c]⟩ u) ∧ ys[i]? = some v)
      (fun h => IsZip h z TI TO .none ∧ IsTupOf2 h TI (.ref i1) (.ref i2) ∧ (∃ a b, IsTupOf2 h TO a b) ∧ h.IsStrIter i1 (strIterType x) x t 0 ∧ h.IsListIter i2 l 0 ∧ h.IsList l ys) where
  type := fun s ok => ⟨_, ok.1, rfl⟩
  notDict := by decide
  keep := fun h h' ok kp => by
    obtain ⟨a1, a2, ⟨a, b, a3⟩, a4, a5, a6⟩ := ok
    exact ⟨kp _ _ a1, kp _ _ a2, ⟨a, b, kp _ _ a3⟩, strit_at a4 fun o e => kp _ o e, a5.at fun o e => kp _ o e, a6.at fun o e => kp _ o e⟩
  there := fun h ok b hb => by
    obtain ⟨a1, a2, ⟨a, c, a3⟩, ⟨o1, a4, _⟩, ⟨o2, a5, _⟩, ⟨o3, a6, _⟩⟩ := ok
    simp only [List.mem_cons, List.not_mem_nil, or_false] at hb
    rcases hb with rfl | rfl | rfl | rfl | rfl | rfl
    · exact ⟨_, a1⟩
    · exact ⟨_, a2⟩
    · exact ⟨_, a3⟩
    · exact ⟨_, a4⟩
    · exact ⟨_, a5⟩
    · exact ⟨_, a6⟩
  sub := fun b hb => by
    simp only [List.mem_cons, List.not_mem_nil, or_false] at hb ⊢
    rcases hb with q | q | q | q <;> simp [q]
  noKeys := fun A s Q E hA ok h => getAttrOr_miss_zip ok.1 rfl rfl rfl zip_no_keys (by decide +kernel) hA h
  iter := fun A s d Q E hA ok hd hdf h => by
    obtain ⟨a1, a2, ⟨a, b, a3⟩, a4, a5, a6⟩ := ok
    simp only [List.mem_cons, List.not_mem_nil, or_false, not_or] at hdf
    obtain ⟨dz, dTI, dTO, d1, d2, dl⟩ := hdf
    have D1 := Draws.text (prog := prog) (w := w) (A := A.in1) (show A.in1.handled = none from hA) i1 x t
    have D2 := Draws.list (prog := prog) (w := w) (A := A.in1) (show A.in1.handled = none from hA) i2 l hli ys
    refine wpAny_pyIter_zip a1 (h z [z, TO, i1, i2] (fun i h => IsTupOf2 h TI (.ref i1) (.ref i2) ∧ h.IsStrIter i1 (strIterType x) x t i ∧ (h.IsListIter i2 l i ∧ h.IsList l ys) ∧
      ((IsZip h z TI TO .none ∧ ∃ a b, IsTupOf2 h TO a b) ∨ ∃ T f oT, IsZipHeld h z TI TO T f ∧ h.get? T = some oT ∧ T ≠ z ∧ T ≠ i1 ∧ T ≠ i2 ∧ T ≠ d)) s.heap s.toks ?_
      ⟨a2, a4, ⟨a5, a6⟩, .inl ⟨a1, a, b, a3⟩⟩ (fun _ _ e => e) fun b hb => .inl hb)
    exact {
      off := fun m => by
        simp only [List.mem_cons, List.not_mem_nil, or_false] at m
        rcases m with e | e | e | e
        · exact dz e
        · exact dTO e
        · exact d1 e
        · exact d2 e
      frame := fun i g g' st kp => by
        obtain ⟨b1, b2, ⟨b3, b4⟩, b5⟩ := st
        refine ⟨kp _ _ (Ne.symm dTI) b1, strit_at b2 fun o e => kp _ o (Ne.symm d1) e, ⟨b3.at fun o e => kp _ o (Ne.symm d2) e, b4.at fun o e => kp _ o (Ne.symm dl) e⟩, ?_⟩
        rcases b5 with ⟨c1, a, b, c2⟩ | ⟨T, f, oT, c1, c2, r1, r2, r3, r4⟩
        · exact .inl ⟨kp _ _ (Ne.symm dz) c1, a, b, kp _ _ (Ne.symm dTO) c2⟩
        · exact .inr ⟨T, f, oT, kp _ _ (Ne.symm dz) c1, kp _ _ r4 c2, r1, r2, r3, r4⟩
      item := fun i g Q' E' hi st hds hQ => by
        obtain ⟨b1, b2, b3, b5⟩ := st
        have l1 : i < x.cps.size := Nat.lt_of_lt_of_le hi (Nat.min_le_left ..)
        have l2 : i < ys.size := Nat.lt_of_lt_of_le hi (Nat.min_le_right ..)
        have lt : ∀ {c o}, g.heap.get? c = some o → g.heap.objs.size ≠ c := fun e => Nat.ne_of_gt (Heap.lt_size e)
        have n1 : g.heap.objs.size ≠ i1 := let ⟨_, e, _⟩ := b2; lt e
        have n2 : g.heap.objs.size ≠ i2 := let ⟨_, e, _⟩ := b3.1; lt e
        rcases b5 with ⟨c1, a, b, c2⟩ | ⟨T, f, oT, c1, c2, r1, r2, r3, r4⟩
        · refine wpAny_pyNext_zipD2_item S D1 D2 c1 b1 c2 b2 b3 l1 l2 fun u v g' tk p1 p2 e1 e2 e3 e4 e5 _ kp => ?_
          exact hQ g.heap.objs.size u v g' tk ⟨p1, p2⟩ (.inl ⟨_, e5, rfl, _, rfl⟩)
            ⟨kp _ _ S.TIz S.TITO S.TIi1 S.TIi2 b1, e3, e4, .inr ⟨g.heap.objs.size, false, _, e1, e5, lt c1, n1, n2, Nat.ne_of_gt hds⟩⟩
            fun c o hc e => kp c o (fun x => hc (by simp [x])) (fun x => hc (by simp [x])) (fun x => hc (by simp [x])) (fun x => hc (by simp [x])) e
        · refine zipH_item S D1 D2 c1 c2 b1 b2 b3 l1 l2 fun u v g' tk p1 p2 e1 e3 e4 e5 kp => ?_
          exact hQ g.heap.objs.size u v g' tk ⟨p1, p2⟩ (.inl ⟨_, e5, rfl, _, rfl⟩)
            ⟨kp _ _ S.TIz S.TIi1 S.TIi2 b1, e3, e4, .inr ⟨T, true, oT, e1, kp _ _ r1 r2 r3 c2, r1, r2, r3, r4⟩⟩
            fun c o hc e => kp c o (fun x => hc (by simp [x])) (fun x => hc (by simp [x])) (fun x => hc (by simp [x])) e
      done := fun g Q' E' st hQ => by
        obtain ⟨b1, b2, b3, b5⟩ := st
        have e : min x.cps.size ys.size = x.cps.size ∨ min x.cps.size ys.size = ys.size := by omega
        rcases b5 with ⟨c1, a, b, c2⟩ | ⟨T, f, oT, c1, c2, r1, r2, r3, r4⟩
        · exact wpAny_pyNext_zipD2_end S D1 D2 c1 b1 c2 b2 b3 (Nat.min_le_left ..) (Nat.min_le_right ..) e fun g' tk kp => hQ g' tk fun c o hc e => kp c o (fun x => hc (by simp [x])) (fun x => hc (by simp [x])) (fun x => hc (by simp [x])) (fun x => hc (by simp [x])) e
        · exact zipH_end S D1 D2 c1 c2 b1 b2 b3 (Nat.min_le_left ..) (Nat.min_le_right ..) e fun g' tk kp => hQ g' tk fun c o hc e => kp c o (fun x => hc (by simp [x])) (fun x => hc (by simp [x])) (fun x => hc (by simp [x])) e }
/-- the keys and values of zip(text, list) -/
def zipK (x : Str) (vs : List V) : List (Key × V) := (x.cps.toList.zip vs).map fun p => (.inr ⟨#[p.1]⟩, p.2)
theorem zip_KV : ∀ (cs : List Nat) {ys : List V} {its : List Value}, Vals ys its → KV ((cs.zip ys).map fun p => ((.inr ⟨#[p.1]⟩ : Key), p.2)) ((cs.zip its).map fun p => ((.inr ⟨#[p.1]⟩ : Key), p.2))
  | [], _, _, _ => .nil
  | _ :: _, _, _, .nil => .nil
  | c :: cs, _, _, .cons r rs => .cons ⟨rfl, r⟩ (zip_KV cs rs)
def tDictZip (K : PySem.W.Frag) (ta : TA) : TE := fun σ H Q => ta σ H fun vs H1 => ∃ (x : Str) (a : Addr) (ys : List V), vs = [.str x, .ref a] ∧ SqL K H1 a ys ∧ x.length ≤ 1000 ∧ ∀ p, H1 p = none → Q (.ref p) (upd H1 p (.dK (mergeK [] (zipK x ys))))
theorem pe_dictZip {X : Cx} {K : PySem.W.Frag} {e e2 : Expr} {ta : TA} {p p2 pos pos2 : Pos} (hK : X.K = K) (hc : X.calm = true) (hg : Gl X "dict") (hm : X.mg "dict" = none) (hg2 : Gl X "zip") (hm2 : X.mg "zip" = none) (ha : PA X [e, e2] ta)
    (hs : starEach [.Call (.Name "zip" p2) [e, e2] [] pos2] X.env = [(false, eval (.Call (.Name "zip" p2) [e, e2] [] pos2) X.env)] := by rfl)
    (hs2 : starEach [e, e2] X.env = (false, eval e X.env) :: starEach [e2] X.env := by rfl) (hpl : (backTo pos2 (starEach [e2] X.env)).any (·.1) = false := by rfl) :
    PE X (.Call (.Name "dict" p) [.Call (.Name "zip" p2) [e, e2] [] pos2] [] pos) (tDictZip K ta) := by
  subst hK
  refine ⟨fun pins s σ H Q I h => ?_⟩
  refine wpAny_Call_Name_kw (ld_blt I hg hm PyProof.Rows.boot_dict (PyProof.Rows.callWith_type1 ?_ hs rfl))
  rw [hs]
  show wpAny _ _ (spliced ((false, eval (.Call (.Name "zip" p2) [e, e2] [] pos2) X.env) :: backTo pos [])) _ _ s
  refine Calls.spliced_cons (wpAny_Call_Name_kw (ld_blt I hg2 hm2 PyProof.Rows.boot_zip (PyProof.Rows.callWith_type1 (thn (ha.run pos2 pins s σ H _ I h) fun us s1 ⟨vs, H1, I1, r1, q1⟩ => ?_) hs2 hpl)))
  obtain ⟨x, a, ys, ex, hq, xl, q1⟩ := q1
  subst ex
  cases r1 with
  | cons r rr =>
    cases rr with
    | cons r' rr =>
      cases rr
      obtain ⟨t, rfl⟩ := r
      cases r'
      obtain ⟨its, rv, pl, hz⟩ := I1.list hq
      have la : a < s1.heap.objs.size := pl.lt
      refine zip_begins2 (begins_text x t) (begins_list a its.toArray) trivial pl.isList fun g g1 g2 g3 g4 g5 g6 g7 => Calls.spliced_nil ?_
      have ne : ∀ k, a ≠ s1.heap.objs.size + k := fun k => Nat.ne_of_lt (Nat.lt_of_lt_of_le la (Nat.le_add_right ..))
      have ne0 : a ≠ s1.heap.objs.size := ne 0
      have sep : ZipSep2 (s1.heap.objs.size + 4) (s1.heap.objs.size + 2) (s1.heap.objs.size + 3) s1.heap.objs.size (s1.heap.objs.size + 1) [s1.heap.objs.size] [s1.heap.objs.size + 1, a] := by
        constructor <;> simp <;> first | omega | exact ⟨by omega, Ne.symm (ne _)⟩ | exact Ne.symm ne0 | exact Ne.symm (ne _)
      have J : Inv X pins σ H1 { s1 with heap := g } := I1.kept (t' := s1.toks) g7
      have len := rv.length
      have hls : g.IsStrIter s1.heap.objs.size (strIterType x) x t 0 := ⟨_, g4, rfl, rfl⟩
      have hll : g.IsListIter (s1.heap.objs.size + 1) a 0 := ⟨_, g5, rfl, rfl⟩
      have hla : g.IsList a its.toArray := pl.isList.at fun o e => g7 _ o e
      let kvs : List (Key × Value) := (x.cps.toList.zip its).map fun p => (.inr ⟨#[p.1]⟩, p.2)
      have kl : kvs.length = min x.cps.size its.toArray.size := by simp [kvs]
      refine call_dict_pairs (knd := mixKind X.prog X.w) (kvs := kvs) (pairs_zipTL _ _ _ _ _ a x t its.toArray (ne 1) sep) (I.ok.hd hc) ⟨g1, g2, ⟨_, _, g3⟩, hls, hll, hla⟩ ⟨kl, fun i key v hr => ?_⟩ (by have : x.cps.size ≤ 1000 := xl; exact Nat.le_trans (Nat.min_le_left ..) (Nat.le_trans this (by decide))) fun g' tk hd kp => ?_
      · obtain ⟨⟨c, u, hc', rfl⟩, hv⟩ := hr
        refine ⟨.inr ⟨#[c]⟩, ?_, mixKind_str _ _ _ _⟩
        have h1 : x.cps.toList[i]? = some c := by simpa using hc'
        have h2 : its[i]? = some v := by simpa using hv
        have h3 : (x.cps.toList.zip its)[i]? = some (c, v) := List.getElem?_zip_eq_some.mpr ⟨h1, h2⟩
        simp [kvs, List.getElem?_map, h3]
      · have hm : (g.objs.size == sysModules) = false := beq_eq_false_iff_ne.mpr (Nat.ne_of_gt J.big)
        have rel : KV (zipK x ys) kvs := zip_KV x.cps.toList rv
        have up : ∀ b u, s1.heap.get? b = some u → g'.get? b = some u := fun b u e => kp b u (fun m => by
          have lt := Heap.lt_size e
          simp only [List.mem_cons, List.not_mem_nil, or_false] at m
          rcases m with q | q | q | q <;> rw [q] at lt
          · exact absurd lt (Nat.not_lt.mpr (Nat.le_add_right ..))
          · exact absurd lt (Nat.not_lt.mpr (Nat.le_add_right ..))
          · exact absurd lt (Nat.lt_irrefl _)
          · exact absurd lt (Nat.not_lt.mpr (Nat.le_add_right ..))) (g7 b u e)
        have big : s1.heap.objs.size ≤ g.objs.size := by rw [g6]; exact Nat.le_add_right ..
        have small : (mergeK [] (zipK x ys)).length ≤ sizeLine := by
          refine Nat.le_trans (length_mergeK (zipK x ys) []) ?_
          have xl' : x.cps.toList.length ≤ 1000 := xl
          unfold zipK
          rw [List.length_map, List.length_zip, List.length_nil, Nat.zero_add]
          exact Nat.le_trans (Nat.min_le_left ..) (Nat.le_trans xl' (by decide))
        exact ⟨.ref g.objs.size, upd H1 g.objs.size (.dK (mergeK [] (zipK x ys))), I1.laid (t' := tk) up big (show ObjOk X.prog X.w _ _ _ (.dK (mergeK [] (zipK x ys))) from ⟨small, hm, merged [] kvs, KV.merge rel .nil, hd⟩), rfl, q1 _ (I1.hok.fresh big)⟩
end WB
/-! Rows: lists or tuples; rules and steps in rows of any kind. -/
namespace WB
open PySem PySem.Spec PyProof.Rows L2 Evl
/-- a row: a list, or a tuple -/
def rwD (k : Bool) (ds : List PyData) : PyData := if k then .list ds else .tuple ds
def lruD (k : Bool) (r : Rule) : PyData := rwD k [.str r.1, .str r.2]
def lstD (k : Bool) (s : WStep) : PyData := rwD k [.int (s.1 : Nat), .int (s.2.1 : Nat), .str (turnS s.2.2)]
/-- item by item -/
inductive All2 {α β : Type} (R : α → β → Prop) : List α → List β → Prop
  | nil : All2 R [] []
  | cons {a : α} {b : β} {as : List α} {bs : List β} : R a b → All2 R as bs → All2 R (a :: as) (b :: bs)
theorem All2.len {α β : Type} {R : α → β → Prop} : ∀ {as : List α} {bs : List β}, All2 R as bs → as.length = bs.length
  | _, _, .nil => rfl
  | _, _, .cons _ r => congrArg (· + 1) r.len
theorem All2.get {α β : Type} {R : α → β → Prop} : ∀ {as : List α} {bs : List β} {i : Nat} {b : β}, All2 R as bs → bs[i]? = some b → ∃ a, as[i]? = some a ∧ R a b
  | _, _, _, _, .nil, h => by simp at h
  | _, _, 0, _, .cons h _, e => by
    simp at e
    subst e
    exact ⟨_, rfl, h⟩
  | _, _, i + 1, _, .cons _ r, e => by
    obtain ⟨a, h1, h2⟩ := r.get (i := i) (by simpa using e)
    exact ⟨a, by simpa using h1, h2⟩
theorem All2.getL {α β : Type} {R : α → β → Prop} : ∀ {as : List α} {bs : List β} {i : Nat} {a : α}, All2 R as bs → as[i]? = some a → ∃ b, bs[i]? = some b ∧ R a b
  | _, _, _, _, .nil, h => by simp at h
  | _, _, 0, _, .cons h _, e => by
    simp at e
    subst e
    exact ⟨_, rfl, h⟩
  | _, _, i + 1, _, .cons _ r, e => by
    obtain ⟨a, h1, h2⟩ := r.getL (i := i) (by simpa using e)
    exact ⟨a, by simpa using h1, h2⟩
theorem All2.map {α β γ : Type} {R : α → β → Prop} (f : γ → α) (g : γ → β) (h : ∀ c, R (f c) (g c)) : ∀ cs : List γ, All2 R (cs.map f) (cs.map g)
  | [] => .nil
  | c :: cs => .cons (h c) (All2.map f g h cs)
/-- d stands for the rules rs, in rows of any kind -/
def LoRs (d : PyData) (rs : List Rule) : Prop := ∃ k ds, d = rwD k ds ∧ All2 (fun d r => ∃ j, d = lruD j r) ds rs
def LoSs (d : PyData) (ss : List WStep) : Prop := ∃ k ds, d = rwD k ds ∧ All2 (fun d s => ∃ j, d = lstD j s) ds ss
theorem all2_self {α : Type} {f : α → PyData} {R : PyData → α → Prop} (h : ∀ a, R (f a) a) : ∀ as : List α, All2 R (as.map f) as
  | [] => .nil
  | a :: as => .cons (h a) (all2_self h as)
theorem lo_rules (rs : List Rule) : LoRs (rulesD rs) rs := ⟨true, rs.map ruleD, rfl, all2_self (fun r => ⟨false, rfl⟩) rs⟩
theorem lo_steps (ss : List WStep) : LoSs (stepsD ss) ss := ⟨true, ss.map stepD, rfl, all2_self (fun s => ⟨false, rfl⟩) ss⟩
section
variable {K : PySem.W.Frag} {σ : L2.St} {F H : Hp} {ta tb te tl : TE} {ds : List PyData} {d d1 d2 d3 : PyData} {k : Bool}
theorem Dt.row0 {H : Hp} {v : V} {k : Bool} {ds : List PyData} (h : Dt H v (rwD k ds)) : ∃ a xs, v = .ref a ∧ (H a = some (.lst xs) ∨ H a = some (.tup xs)) ∧ DtAll H xs ds := by
  cases k
  · obtain ⟨a, xs, h1, h2, h3⟩ := Dt.tuple_ h
    exact ⟨a, xs, h1, .inr h2, h3⟩
  · obtain ⟨a, xs, h1, h2, h3⟩ := Dt.list_ h
    exact ⟨a, xs, h1, .inl h2, h3⟩
theorem Dt.row_ {H : Hp} {v : V} {k : Bool} {ds : List PyData} (h : Dt H v (rwD k ds)) : ∃ a xs, v = .ref a ∧ (SqL K H a xs ∨ SqT K H a xs) ∧ DtAll H xs ds := by
  cases k
  · obtain ⟨a, xs, h1, h2, h3⟩ := Dt.tuple_ h
    exact ⟨a, xs, h1, .inr (SqT.of h2), h3⟩
  · obtain ⟨a, xs, h1, h2, h3⟩ := Dt.list_ h
    exact ⟨a, xs, h1, .inl (SqL.of h2), h3⟩
/-- len, items, walks, names of a row -/
theorem d_lenRw (h : EvD te σ F (rwD k ds)) : EvD (tCB (rLenA K) (tCons te tNil)) σ F (.int (ds.length : Int)) := d_cb (da_cons h da_nil) (cb1 rfl fun H1 v hx Q q => by
  obtain ⟨a, ys, rfl, h2, h3⟩ := hx.row_ (K := K)
  exact .inl ⟨a, ys, rfl, h2, by rw [h3.len]; exact q⟩)
theorem d_ixRw {i : Int} (ha : EvD ta σ F (rwD k ds)) (hb : EvD tb σ F (.int i)) (h : atI ds i = some d) : EvD (tOp (rIxA K) ta tb) σ F d := fun H1 e Q q =>
  ha H1 e _ fun x H2 e2 hx => hb H2 (e.trans e2) _ fun y H3 e3 hy => by
    obtain ⟨a, xs, rfl, h1, h2⟩ := hx.row0
    obtain ⟨v, h3, h4⟩ := h2.atI h
    have fin : Q v H3 := q v H3 (e2.trans e3) (dt_on h4 e3)
    rcases h1 with h1 | h1
    · exact .inl ⟨a, xs, i, v, rfl, hy.int_, SqL.of (e3 _ _ (nw_ex (e.trans e2) _ _ h1)), h3, fin⟩
    · exact .inr (.inl ⟨a, xs, i, v, rfl, hy.int_, SqT.of (e3 _ _ (nw_ex (e.trans e2) _ _ h1)), h3, fin⟩)
theorem wk_rw (h : EvD tl σ F (rwD k ds)) : WkD (iAny K tl) σ F ds := by
  cases k
  · exact fun H1 e R q => .inr (wk_tup h H1 e R q)
  · exact fun H1 e R q => .inl (wk_list h H1 e R q)
theorem itd_enT {G : Hp} {a : Addr} {xs : List V} (h : G a = some (.tup xs)) (hd : DtAll G xs ds) : ItD (ItEt K a) G (enumD ds) where
  go := fun i H e hi => by
    rw [enumD_len] at hi
    obtain ⟨v, h1, _⟩ := hd.get (List.getElem?_eq_getElem hi)
    exact ⟨xs, v, SqT.of (e _ _ h), h1⟩
  yld := fun i H x H' e hi ⟨T, y, e1, hT, e2, e3⟩ => by
    subst e1 e2
    refine ⟨Ex.new hT, fun d hd' => ?_⟩
    rw [enumD_len] at hi
    rw [enumD_get (List.getElem?_eq_getElem hi)] at hd'
    cases hd'
    obtain ⟨v, h1, h2⟩ := hd.get (List.getElem?_eq_getElem hi)
    have z := e3 xs (SqT.of (e _ _ h))
    rw [h1] at z
    cases z
    exact .tup (by rw [nw_n hT, upd_same]) (.cons (.int _) (.cons (h2.ex (ex_nw e)) .nil))
  stop := fun i H e hi => by
    rw [enumD_len] at hi
    exact ⟨xs, SqT.of (e _ _ h), by rw [hd.len]; exact hi⟩
theorem wk_enRw {ta : TA} (h : EvDA ta σ F [rwD k ds]) : WkD (iEnA K ta) σ F (enumD ds) := fun H1 e R q => h H1 e _ fun xs H2 e2 hx => by
  obtain ⟨x, rfl, hx1⟩ := da1_ hx
  obtain ⟨a, ys, rfl, h1, h2⟩ := hx1.row0
  rcases h1 with h1 | h1
  · exact ⟨a, rfl, .inl ⟨ys, SqL.of (nw_ex (e.trans e2) _ _ h1), q _ H2 e2 (itd_enum h1 h2)⟩⟩
  · exact ⟨a, rfl, .inr ⟨ys, SqT.of (nw_ex (e.trans e2) _ _ h1), q _ H2 e2 (itd_enT h1 h2)⟩⟩
/-- names for a row's items -/
theorem g_any {n : Nat} {t : TGs} {x : V} {Q : L2.St → Hp → Prop} (h : Dt F x (rwD k ds)) (e : Ex F H) (hn : ds.length = n) (q : ∀ xs, DtAll F xs ds → t xs σ H Q) : gAny K n t x σ H Q := by
  obtain ⟨a, xs, rfl, h1, h2⟩ := h.row0
  rcases h1 with h1 | h1
  · exact .inr ⟨a, xs, rfl, SqL.of (e _ _ h1), by rw [h2.len, hn], q xs h2⟩
  · exact .inl ⟨a, xs, rfl, SqT.of (e _ _ h1), by rw [h2.len, hn], q xs h2⟩
theorem gt2A {i j : Nat} {x : V} {Q : L2.St → Hp → Prop} (h : Dt F x (rwD k [d1, d2])) (e : Ex F H) (q : ∀ y z, Dt F y d1 → Dt F z d2 → Q ((σ.set i (some y)).set j (some z)) H) : gAny K 2 (gCons (gName i) (gCons (gName j) gNil)) x σ H Q :=
  g_any h e rfl fun xs hx => by
    obtain ⟨y, z, rfl, h3, h4⟩ := da2_ hx
    exact ⟨y, [z], rfl, z, [], rfl, rfl, q y z h3 h4⟩
variable {M : Addr → Prop} {F0 H0 : Hp} {D : Ends} {rest : TS}
theorem q_unpA2 {i j : Nat} (kn : Kn M F0 H0 F H) (h : EvD te σ F (rwD k [d1, d2])) (q : ∀ x y F1 H1, StpE M F0 H0 F H F1 H1 → Dt F1 x d1 → Dt F1 y d2 → rest D ((σ.set i (some x)).set j (some y)) H1) : tSeq (tAsg te (gAny K 2 (gCons (gName i) (gCons (gName j) gNil)))) rest D σ H :=
  k_ev kn h _ fun v F1 H1 s hv => gt2A hv s.kn.fh fun y z hy hz => q y z F1 H1 s hy hz
theorem q_unpA3 {i j l : Nat} (kn : Kn M F0 H0 F H) (h : EvD te σ F (rwD k [d1, d2, d3])) (q : ∀ x y z F1 H1, StpE M F0 H0 F H F1 H1 → Dt F1 x d1 → Dt F1 y d2 → Dt F1 z d3 → rest D (((σ.set i (some x)).set j (some y)).set l (some z)) H1) : tSeq (tAsg te (gAny K 3 (gCons (gName i) (gCons (gName j) (gCons (gName l) gNil))))) rest D σ H :=
  k_ev kn h _ fun v F1 H1 s hv => g_any hv s.kn.fh rfl fun xs hx => by
    obtain ⟨x, y, z, rfl, h3, h4, h5⟩ := da3_ hx
    exact ⟨x, [y, z], rfl, y, [z], rfl, z, [], rfl, rfl, q x y z F1 H1 s h3 h4 h5⟩
/-- tuple(row) -/
theorem d_tupRw (h : EvD te σ F (rwD k ds)) : EvD (tCB (rTupQ K) (tCons te tNil)) σ F (.tuple ds) := by
  cases k
  · exact d_tupT h
  · exact d_tupL h
/-- step[0], step[1], step[2] == "on" of a step in a row -/
theorem d_rst0 {s : WStep} (h : EvD te σ F (lstD k s)) : EvD (tOp (rIxA K) te (tC (.int 0))) σ F (.int (s.1 : Nat)) := d_ixRw h d_int rfl
theorem d_rst1 {s : WStep} (h : EvD te σ F (lstD k s)) : EvD (tOp (rIxA K) te (tC (.int 1))) σ F (.int (s.2.1 : Nat)) := d_ixRw h d_int rfl
theorem d_rst2 {s : WStep} (h : EvD te σ F (lstD k s)) : EvD (tOp (rIxA K) te (tC (.int 2))) σ F (.str (turnS s.2.2)) := d_ixRw h d_int rfl
theorem t_ronA {s : WStep} (h : EvD te σ F (lstD k s)) : EvT (tTest (tOp rEq (tOp (rIxA K) te (tC (.int 2))) (tC (.str "on")))) σ F s.2.2 := by
  have z := t_val (d_eq (x := .str (turnS s.2.2)) (y := .str "on") (d_rst2 (K := K) h) d_str rfl rfl rfl)
  rw [turn_on] at z
  exact z
/-- rules[step[1]] -/
theorem d_rrul {rs : List Rule} {s : WStep} {q : Rule} {tr : TE} (hr : EvD tr σ F (rulesD rs)) (h : EvD te σ F (lstD k s)) (hq : rs[s.2.1]? = some q) : EvD (tOp (rIxL K) tr (tOp (rIxA K) te (tC (.int 1)))) σ F (ruleD q) := d_ixL hr (d_rst1 h) (atI_rules hq)
end
end WB
/-! Steps exchanged, in plain Lean. -/
namespace WB
open PySem PySem.Spec PyProof.Rows L2 Evl
def ltr (z : Str) : List Nat := z.cps.toList
theorem ltr_inj {a b : Str} (h : ltr a = ltr b) : a = b := by
  obtain ⟨⟨a⟩⟩ := a
  obtain ⟨⟨b⟩⟩ := b
  have e : a = b := h
  rw [e]
theorem ltr_len (z : Str) : (ltr z).length = z.length := rfl
theorem ltr_app (a b : Str) : ltr (a ++ b) = ltr a ++ ltr b := by
  show (a.cps ++ b.cps).toList = _
  rw [Array.toList_append]
  rfl
theorem ltr_cut (z : Str) (p q : Nat) : ltr (cutS z (some (p : Int)) (some (q : Int))) = ((ltr z).drop (min p z.length)).take (min q z.length - min p z.length) := by
  show (cutS z _ _).cps.toList = _
  rw [cutS_toList, HT.sIx_nat, HT.sIx_nat]
  rfl
theorem ltr_lo (z : Str) (p : Nat) : ltr (cutS z none (some (p : Int))) = (ltr z).take p := by
  show (cutS z _ _).cps.toList = _
  rw [cutS_toList, HT.sIx_nat, HT.sIx_none, List.drop_zero, Nat.sub_zero]
  show (ltr z).take (min p (ltr z).length) = _
  by_cases h : p ≤ (ltr z).length
  · rw [Nat.min_eq_left h]
  · rw [Nat.min_eq_right (by omega), List.take_of_length_le (Nat.le_refl _), List.take_of_length_le (by omega)]
theorem ltr_hi (z : Str) (p : Nat) : ltr (cutS z (some (p : Int)) none) = (ltr z).drop p := by
  show (cutS z _ _).cps.toList = _
  rw [cutS_toList, HT.sIx_nat, HT.sIx_none]
  show ((ltr z).drop (min p (ltr z).length)).take ((ltr z).length - min p (ltr z).length) = _
  rw [List.take_of_length_le (by rw [List.length_drop]; exact Nat.le_refl _)]
  by_cases h : p ≤ (ltr z).length
  · rw [Nat.min_eq_left h]
  · rw [Nat.min_eq_right (by omega), List.drop_eq_nil_of_le (Nat.le_refl _), List.drop_eq_nil_of_le (by omega)]
/-- where a step can be done, what is around its source -/
theorem can_split {q : Rule} {z : Str} {s : WStep} (h : canR q z s = true) (n : (src q s.2.2).length ≠ 0) : ∃ X Y, ltr z = X ++ (ltr (src q s.2.2) ++ Y) ∧ X.length = s.1 := by
  have lin := can_in h n
  have e : cutS z (some (s.1 : Nat)) (some ((s.1 : Nat) + ((src q s.2.2).length : Nat) : Int)) = src q s.2.2 := V.str.inj (of_decide_eq_true h)
  have e2 := congrArg ltr e
  rw [show ((s.1 : Nat) + ((src q s.2.2).length : Nat) : Int) = ((s.1 + (src q s.2.2).length : Nat) : Int) by omega, ltr_cut, Nat.min_eq_left (show s.1 ≤ z.length by omega), Nat.min_eq_left lin, show s.1 + (src q s.2.2).length - s.1 = (src q s.2.2).length by omega] at e2
  refine ⟨(ltr z).take s.1, (ltr z).drop (s.1 + (src q s.2.2).length), ?_, by rw [List.length_take, ltr_len]; omega⟩
  rw [← List.drop_drop, ← e2, List.take_append_drop, List.take_append_drop]
theorem can_of {q : Rule} {z : Str} {s : WStep} {X Y : List Nat} (h : ltr z = X ++ (ltr (src q s.2.2) ++ Y)) (hX : X.length = s.1) : canR q z s = true := by
  refine decide_eq_true (congrArg V.str (ltr_inj ?_))
  have l := congrArg List.length h
  rw [ltr_len, List.length_append, List.length_append, ltr_len] at l
  rw [show ((s.1 : Nat) + ((src q s.2.2).length : Nat) : Int) = ((s.1 + (src q s.2.2).length : Nat) : Int) by omega, ltr_cut, Nat.min_eq_left (by omega), Nat.min_eq_left (by omega), show s.1 + (src q s.2.2).length - s.1 = (src q s.2.2).length by omega, h, ← hX, List.drop_left, ← ltr_len, List.take_left]
theorem done_of {q : Rule} {z : Str} {s : WStep} {X Y : List Nat} (h : ltr z = X ++ (ltr (src q s.2.2) ++ Y)) (hX : X.length = s.1) : ltr (doneR q z s) = X ++ (ltr (gol q s.2.2) ++ Y) := by
  unfold doneR
  rw [ltr_app, ltr_app, ltr_lo, show ((s.1 : Nat) + ((src q s.2.2).length : Nat) : Int) = ((s.1 + (src q s.2.2).length : Nat) : Int) by omega, ltr_hi, h, ← hX, List.take_left, ← List.drop_drop, List.drop_left, ← ltr_len, List.drop_left, List.append_assoc]
/-- two steps in the other order -/
def exch (rs : List Rule) (s t : WStep) : Option (WStep × WStep) :=
  if t.1 + srL rs t ≤ s.1 then some (t, (s.1 + goL rs t - srL rs t, s.2))
  else if s.1 + goL rs s ≤ t.1 then some ((t.1 - goL rs s + srL rs s, t.2), s) else none
theorem exch_can {rs : List Rule} {q1 q2 : Rule} {z : Str} {s t a b : WStep} (r1 : RuOk q1) (r2 : RuOk q2) (h1 : rs[s.2.1]? = some q1) (h2 : rs[t.2.1]? = some q2) (c1 : canR q1 z s = true) (c2 : canR q2 (doneR q1 z s) t = true) (e : exch rs s t = some (a, b)) :
    a.2 = t.2 ∧ b.2 = s.2 ∧ canR q2 z a = true ∧ canR q1 (doneR q2 z a) b = true ∧ doneR q1 (doneR q2 z a) b = doneR q2 (doneR q1 z s) t := by
  obtain ⟨X, Y, hz, hX⟩ := can_split c1 (r1.s0 _)
  have hd := done_of hz hX
  obtain ⟨U, V, hu, hU⟩ := can_split c2 (r2.s0 _)
  have hd2 := done_of hu hU
  rw [hd] at hu
  unfold exch at e
  rw [srL_eq h2, goL_eq h2, srL_eq h1, goL_eq h1] at e
  by_cases k : t.1 + (src q2 t.2.2).length ≤ s.1
  · rw [if_pos k] at e
    cases e
    -- X = U ++ src ++ W
    have ht : (X ++ (ltr (gol q1 s.2.2) ++ Y)).take X.length = X := List.take_left
    obtain ⟨W, hW⟩ : ∃ W, X = U ++ (ltr (src q2 t.2.2) ++ W) := by
      refine ⟨V.take (X.length - (U.length + (src q2 t.2.2).length)), ?_⟩
      have z := congrArg (List.take X.length) hu
      rw [List.take_left, List.take_append, List.take_of_length_le (by omega), List.take_append, List.take_of_length_le (by rw [ltr_len]; omega), ltr_len, Nat.sub_sub] at z
      exact z
    have hV : V = W ++ (ltr (gol q1 s.2.2) ++ Y) := by
      rw [hW, List.append_assoc, List.append_assoc] at hu
      exact (List.append_cancel_left (List.append_cancel_left hu)).symm
    have za : ltr z = U ++ (ltr (src q2 t.2.2) ++ (W ++ (ltr (src q1 s.2.2) ++ Y))) := by rw [hz, hW]; simp only [List.append_assoc]
    have da := done_of (s := t) za hU
    have za2 : ltr (doneR q2 z t) = (U ++ (ltr (gol q2 t.2.2) ++ W)) ++ (ltr (src q1 s.2.2) ++ Y) := by rw [da]; simp only [List.append_assoc]
    have lW := congrArg List.length hW
    rw [List.length_append, List.length_append, ltr_len] at lW
    have hXX : (U ++ (ltr (gol q2 t.2.2) ++ W)).length = s.1 + (gol q2 t.2.2).length - (src q2 t.2.2).length := by
      rw [List.length_append, List.length_append, ltr_len]
      omega
    refine ⟨rfl, rfl, can_of za hU, can_of (s := (s.1 + (gol q2 t.2.2).length - (src q2 t.2.2).length, s.2)) za2 hXX, ltr_inj ?_⟩
    rw [done_of (s := (s.1 + (gol q2 t.2.2).length - (src q2 t.2.2).length, s.2)) za2 hXX, hd2, hV]
    simp only [List.append_assoc]
  · rw [if_neg k] at e
    by_cases k2 : s.1 + (gol q1 s.2.2).length ≤ t.1
    · rw [if_pos k2] at e
      cases e
      obtain ⟨W, hW⟩ : ∃ W, U = X ++ (ltr (gol q1 s.2.2) ++ W) := by
        refine ⟨Y.take (U.length - (X.length + (gol q1 s.2.2).length)), ?_⟩
        have z := congrArg (List.take U.length) hu
        rw [List.take_append (l₁ := U), List.take_of_length_le (Nat.le_refl _), Nat.sub_self, List.take_zero, List.append_nil, List.take_append, List.take_of_length_le (by omega), List.take_append, List.take_of_length_le (by rw [ltr_len]; omega), ltr_len, Nat.sub_sub] at z
        exact z.symm
      have hY : Y = W ++ (ltr (src q2 t.2.2) ++ V) := by
        rw [hW, List.append_assoc, List.append_assoc] at hu
        exact List.append_cancel_left (List.append_cancel_left hu)
      have za : ltr z = (X ++ (ltr (src q1 s.2.2) ++ W)) ++ (ltr (src q2 t.2.2) ++ V) := by rw [hz, hY]; simp only [List.append_assoc]
      have lW := congrArg List.length hW
      rw [List.length_append, List.length_append, ltr_len] at lW
      have hXX : (X ++ (ltr (src q1 s.2.2) ++ W)).length = t.1 - (gol q1 s.2.2).length + (src q1 s.2.2).length := by
        rw [List.length_append, List.length_append, ltr_len]
        omega
      have da := done_of (s := (t.1 - (gol q1 s.2.2).length + (src q1 s.2.2).length, t.2)) za hXX
      have za2 : ltr (doneR q2 z (t.1 - (gol q1 s.2.2).length + (src q1 s.2.2).length, t.2)) = X ++ (ltr (src q1 s.2.2) ++ (W ++ (ltr (gol q2 t.2.2) ++ V))) := by rw [da]; simp only [List.append_assoc]
      refine ⟨rfl, rfl, can_of (s := (t.1 - (gol q1 s.2.2).length + (src q1 s.2.2).length, t.2)) za hXX, can_of za2 hX, ltr_inj ?_⟩
      rw [done_of za2 hX, hd2, hW]
      simp only [List.append_assoc]
    · rw [if_neg k2] at e
      cases e
end WB
/-! Ways with two steps exchanged. -/
namespace WB
open PySem PySem.Spec PyProof.Rows L2 Evl
/-- a rule with short sides; a book of few of them -/
def RuSm (r : Rule) : Prop := RuOk r ∧ r.1.length ≤ 8 ∧ r.2.length ≤ 8
structure BkSm (rs : List Rule) : Prop where
  r : ∀ q ∈ rs, RuSm q
  n : rs.length ≤ 14
theorem BkSm.ok {rs : List Rule} (h : BkSm rs) : BkOk rs := ⟨fun q hq => (h.r q hq).1, by have := h.n; omega⟩
theorem RuSm.gl {q : Rule} (h : RuSm q) (b : Bool) : (gol q b).length ≤ 8 := by
  unfold gol
  cases b
  · exact h.2.1
  · exact h.2.2
theorem RuSm.sl {q : Rule} (h : RuSm q) (b : Bool) : (src q b).length ≤ 8 := by
  unfold src
  cases b
  · exact h.2.2
  · exact h.2.1
def doneS (rs : List Rule) (z : Str) (s : WStep) : Str := match rs[s.2.1]? with
  | some q => doneR q z s
  | none => z
theorem doneS_eq {rs : List Rule} {z : Str} {s : WStep} {q : Rule} (h : rs[s.2.1]? = some q) : doneS rs z s = doneR q z s := by
  unfold doneS
  rw [h]
/-- the last word -/
def endW (rs : List Rule) : Str → List WStep → Str
  | z, [] => z
  | z, s :: r => match rs[s.2.1]? with
    | some q => endW rs (doneR q z s) r
    | none => endW rs z r
theorem endW_c {rs : List Rule} {z : Str} {s : WStep} {r : List WStep} {q : Rule} (h : rs[s.2.1]? = some q) : endW rs z (s :: r) = endW rs (doneR q z s) r := by
  show (match rs[s.2.1]? with | some q => endW rs (doneR q z s) r | none => endW rs z r) = _
  rw [h]
theorem endW_s (rs : List Rule) (z : Str) (s : WStep) (r : List WStep) : endW rs z (s :: r) = endW rs (doneS rs z s) r := by
  unfold doneS
  show (match rs[s.2.1]? with | some q => endW rs (doneR q z s) r | none => endW rs z r) = _
  cases rs[s.2.1]? <;> rfl
theorem endW_app (rs : List Rule) : ∀ (z : Str) (xs ys : List WStep), endW rs z (xs ++ ys) = endW rs (endW rs z xs) ys
  | z, [], ys => rfl
  | z, s :: r, ys => by
    rw [List.cons_append, endW_s, endW_s, endW_app rs _ r ys]
/-- each step can be done -/
def WyC (rs : List Rule) : Str → List WStep → Prop
  | _, [] => True
  | z, s :: r => ∃ q, rs[s.2.1]? = some q ∧ canR q z s = true ∧ WyC rs (doneR q z s) r
theorem WyOk.c {rs : List Rule} : ∀ {z : Str} {ss : List WStep}, WyOk rs z ss → WyC rs z ss
  | _, [], _ => True.intro
  | _, _ :: _, ⟨_, q, h1, h2, h3⟩ => ⟨q, h1, h2, h3.c⟩
theorem done_le {q : Rule} {z : Str} {s : WStep} (r : RuSm q) (c : canR q z s = true) : (doneR q z s).length ≤ z.length + 8 := by
  have ci := can_in c (r.1.s0 _)
  have dl := done_len ci
  have g := r.gl s.2.2
  omega
theorem WyC.ok {rs : List Rule} (b : BkSm rs) : ∀ {z : Str} {ss : List WStep}, WyC rs z ss → z.length + 8 * ss.length ≤ 1000 → WyOk rs z ss
  | z, [], _, h => by
    show z.length ≤ 1000
    simp at h
    omega
  | z, s :: r, ⟨q, h1, h2, h3⟩, h => by
    have dl := done_le (b.r q (List.mem_of_getElem? h1)) h2
    rw [List.length_cons] at h
    exact ⟨by omega, q, h1, h2, h3.ok b (by omega)⟩
theorem WyC.app {rs : List Rule} : ∀ {z : Str} {xs ys : List WStep}, WyC rs z (xs ++ ys) ↔ WyC rs z xs ∧ WyC rs (endW rs z xs) ys
  | z, [], ys => ⟨fun h => ⟨True.intro, h⟩, fun h => h.2⟩
  | z, s :: r, ys => by
    constructor
    · rintro ⟨q, h1, h2, h3⟩
      obtain ⟨a, b⟩ := WyC.app.mp h3
      rw [endW_c h1]
      exact ⟨⟨q, h1, h2, a⟩, b⟩
    · rintro ⟨⟨q, h1, h2, a⟩, b⟩
      rw [endW_c h1] at b
      exact ⟨q, h1, h2, WyC.app.mpr ⟨a, b⟩⟩
theorem WyC.len {rs : List Rule} (b : BkSm rs) : ∀ {z : Str} {ss : List WStep}, WyC rs z ss → (endW rs z ss).length ≤ z.length + 8 * ss.length
  | z, [], _ => Nat.le_refl _
  | z, s :: r, ⟨q, h1, h2, h3⟩ => by
    have dl := done_le (b.r q (List.mem_of_getElem? h1)) h2
    have ih := h3.len b
    rw [endW_c h1, List.length_cons]
    omega
/-- the steps with i and i + 1 exchanged -/
def swapAt (ss : List WStep) (i : Nat) (p : WStep × WStep) : List WStep := ss.take i ++ [p.1, p.2] ++ ss.drop (i + 2)
theorem split2 {α : Type} {ss : List α} {i : Nat} {s t : α} (h1 : ss[i]? = some s) (h2 : ss[i + 1]? = some t) : ss = ss.take i ++ (s :: t :: ss.drop (i + 2)) := by
  have l1 := (List.getElem?_eq_some_iff.mp h1)
  have l2 := (List.getElem?_eq_some_iff.mp h2)
  obtain ⟨a1, e1⟩ := l1
  obtain ⟨a2, e2⟩ := l2
  have d1 : ss.drop i = s :: ss.drop (i + 1) := by rw [List.drop_eq_getElem_cons a1, e1]
  have d2 : ss.drop (i + 1) = t :: ss.drop (i + 2) := by rw [List.drop_eq_getElem_cons a2, e2]
  rw [← d2, ← d1, List.take_append_drop]
theorem swap_len {ss : List WStep} {i : Nat} {p : WStep × WStep} (h : i + 1 < ss.length) : (swapAt ss i p).length = ss.length := by
  unfold swapAt
  simp
  omega
theorem swap_c {rs : List Rule} (b : BkOk rs) {z : Str} {ss : List WStep} {i : Nat} {s t : WStep} {p : WStep × WStep} (c : WyC rs z ss) (h1 : ss[i]? = some s) (h2 : ss[i + 1]? = some t) (e : exch rs s t = some p) :
    WyC rs z (swapAt ss i p) ∧ endW rs z (swapAt ss i p) = endW rs z ss ∧ endW rs z ((swapAt ss i p).take (i + 2)) = endW rs z (ss.take (i + 2)) := by
  have sp := split2 h1 h2
  have li : i + 1 < ss.length := (List.getElem?_eq_some_iff.mp h2).1
  have tk : ss.take (i + 2) = ss.take i ++ [s, t] := by
    rw [take_snoc h2, take_snoc h1, List.append_assoc]
    rfl
  have tk2 : (swapAt ss i p).take (i + 2) = ss.take i ++ [p.1, p.2] := by
    unfold swapAt
    rw [List.take_append, List.take_of_length_le (by simp; omega)]
    simp
    omega
  rw [tk, tk2]
  rw [sp] at c
  obtain ⟨c1, q1, e1, k1, q2, e2, k2, c2⟩ := WyC.app.mp c
  obtain ⟨a1, a2, a3, a4, a5⟩ := exch_can (b.at_ e1) (b.at_ e2) e1 e2 k1 k2 (a := p.1) (b := p.2) e
  have f1 : rs[p.1.2.1]? = some q2 := by rw [a1]; exact e2
  have f2 : rs[p.2.2.1]? = some q1 := by rw [a2]; exact e1
  have en : ∀ r, endW rs (endW rs z (ss.take i)) (p.1 :: p.2 :: r) = endW rs (endW rs z (ss.take i)) (s :: t :: r) := fun r => by
    rw [endW_c f1, endW_c f2, endW_c e1, endW_c e2, a5]
  refine ⟨?_, ?_, ?_⟩
  · unfold swapAt
    rw [List.append_assoc]
    exact WyC.app.mpr ⟨c1, q2, f1, a3, q1, f2, a4, by rw [a5]; exact c2⟩
  · unfold swapAt
    conv => rhs; rw [sp]
    rw [List.append_assoc, endW_app rs z (ss.take i) ([p.1, p.2] ++ ss.drop (i + 2)), endW_app rs z (ss.take i) (s :: t :: ss.drop (i + 2))]
    exact en _
  · rw [endW_app, endW_app]
    exact en []
/-- the words along -/
theorem words_at (rs : List Rule) : ∀ (z : Str) (ss : List WStep) (i : Nat), i ≤ ss.length → (wordsOf rs z ss)[i]? = some (endW rs z (ss.take i))
  | z, ss, 0, _ => by
    rw [wordsOf_0, List.take_zero]
    rfl
  | z, [], i + 1, h => by simp at h
  | z, s :: r, i + 1, h => by
    rw [List.take_succ_cons, endW_s]
    have ih := words_at rs (doneS rs z s) r i (by simpa using h)
    show (wordsOf rs (match rs[s.2.1]? with | some q => doneR q z s | none => z) r)[i]? = _
    exact ih
theorem words_take {rs : List Rule} {z : Str} {ss : List WStep} {i : Nat} {p : WStep × WStep} (h : i + 1 < ss.length) : (wordsOf rs z (swapAt ss i p)).take (i + 1) = (wordsOf rs z ss).take (i + 1) := by
  apply List.ext_getElem?
  intro j
  rw [List.getElem?_take, List.getElem?_take]
  by_cases hj : j < i + 1
  · rw [if_pos hj, if_pos hj, words_at _ _ _ _ (by rw [swap_len h]; omega), words_at _ _ _ _ (by omega)]
    congr 2
    unfold swapAt
    rw [List.append_assoc, List.take_append_of_le_length (by rw [List.length_take]; omega), List.take_take, Nat.min_eq_left (by omega)]
  · rw [if_neg hj, if_neg hj]
theorem words_drop {rs : List Rule} (b : BkOk rs) {z : Str} {ss : List WStep} {i : Nat} {s t : WStep} {p : WStep × WStep} (c : WyC rs z ss) (h1 : ss[i]? = some s) (h2 : ss[i + 1]? = some t) (e : exch rs s t = some p) : (wordsOf rs z (swapAt ss i p)).drop (i + 2) = (wordsOf rs z ss).drop (i + 2) := by
  have li : i + 1 < ss.length := (List.getElem?_eq_some_iff.mp h2).1
  obtain ⟨_, _, en⟩ := swap_c b c h1 h2 e
  apply List.ext_getElem?
  intro j
  rw [List.getElem?_drop, List.getElem?_drop]
  by_cases hj : i + 2 + j ≤ ss.length
  · rw [words_at _ _ _ _ (by rw [swap_len li]; omega), words_at _ _ _ _ hj]
    have t1 : ss.take (i + 2 + j) = ss.take (i + 2) ++ (ss.drop (i + 2)).take j := by rw [List.take_add]
    have t2 : (swapAt ss i p).take (i + 2 + j) = (swapAt ss i p).take (i + 2) ++ ((swapAt ss i p).drop (i + 2)).take j := by rw [List.take_add]
    have d2 : (swapAt ss i p).drop (i + 2) = ss.drop (i + 2) := by
      unfold swapAt
      rw [List.drop_append, List.drop_eq_nil_of_le (by simp; omega), List.nil_append]
      simp
      congr 1
      omega
    rw [t1, t2, d2, endW_app, endW_app, en]
  · rw [List.getElem?_eq_none (by rw [wordsOf_len, swap_len li]; omega), List.getElem?_eq_none (by rw [wordsOf_len]; omega)]
end WB
/-! Names for a list's items. -/
namespace WB
open PySem PySem.Spec PyProof.Rows L2 Evl
theorem pg_unlK {X : Cx} {K : PySem.W.Frag} {es : List Expr} {kk : Nat} {pos : Pos} {t : TGs} {n : Nat} (hK : X.K = K) (hc : X.calm = true) (h : PGs X es t)
    (hn : (assignEach es X.env).length = n := by rfl) (hst : (assignEach es X.env).findIdx? (·.1) = none := by rfl) : PG X (.Tuple es kk pos) (gUnl K n t) := by
  subst hK
  exact pg_unl hc h hn hst
section
variable {M : Addr → Prop} {K : PySem.W.Frag} {F0 H0 F H : Hp} {σ : L2.St} {te : TE} {d1 d2 : PyData} {D : Ends} {rest : TS}
theorem q_unl2 {i j : Nat} (kn : Kn M F0 H0 F H) (h : EvD te σ F (.list [d1, d2])) (q : ∀ x y F1 H1, StpE M F0 H0 F H F1 H1 → Dt F1 x d1 → Dt F1 y d2 → rest D ((σ.set i (some x)).set j (some y)) H1) : tSeq (tAsg te (gUnl K 2 (gCons (gName i) (gCons (gName j) gNil)))) rest D σ H :=
  k_ev kn h _ fun v F1 H1 s hv => by
    obtain ⟨a, xs, rfl, h1, h2⟩ := hv.list_
    obtain ⟨x, y, rfl, h3, h4⟩ := da2_ h2
    exact ⟨a, _, rfl, SqL.of (s.kn.fh _ _ h1), rfl, x, [y], rfl, y, [], rfl, rfl, q x y F1 H1 s h3 h4⟩
end
end WB
/-! Three names at once; lists of numbers. -/
namespace WB
open PySem PySem.Spec PyProof.Rows L2 Evl
section
variable {M : Addr → Prop} {K : PySem.W.Frag} {F0 H0 F H : Hp} {σ : L2.St} {ta tb te : TE} {d d1 d2 d3 : PyData} {D : Ends} {rest : TS}
theorem gt3 {i j l : Nat} {x : V} {Q : L2.St → Hp → Prop} (h : Dt F x (.tuple [d1, d2, d3])) (e : Ex F H) (q : ∀ u v w, Dt F u d1 → Dt F v d2 → Dt F w d3 → Q (((σ.set i (some u)).set j (some v)).set l (some w)) H) : gTup K 3 (gCons (gName i) (gCons (gName j) (gCons (gName l) gNil))) x σ H Q := by
  obtain ⟨a, xs, rfl, h1, h2⟩ := h.tuple_
  obtain ⟨u, v, w, rfl, h3, h4, h5⟩ := da3_ h2
  exact ⟨a, _, rfl, SqT.of (e _ _ h1), rfl, u, [v, w], rfl, v, [w], rfl, w, [], rfl, rfl, q u v w h3 h4 h5⟩
/-- a, b, xs = e, e, []; the list is one's own -/
theorem q_three {i j l : Nat} (kn : Kn M F0 H0 F H) (ha : EvD ta σ F d1) (hb : EvD tb σ F d2) (k : ∀ u v p F1 H1, Stp M F0 H0 F H F1 H1 → Dt F1 u d1 → Dt F1 v d2 → F1 p = none → H p = none → H1 p = some (.lst []) → ExM (fun _ => False) H H1 → rest D (((σ.set i (some u)).set j (some v)).set l (some (.ref p))) H1) :
    tSeq (tAsg (tTup (tCons ta (tCons tb (tCons (tLst tNil) tNil)))) (gTup K 3 (gCons (gName i) (gCons (gName j) (gCons (gName l) gNil))))) rest D σ H := by
  refine wp_asgG (wp_tup (wp_cons (k_ev kn ha _ fun u F1 H1 s1 hu => wp_cons (k_ev s1.kn (hb.mono s1.ff) _ fun v F2 H2 s2 hv => wp_cons (wp_lst (wp_nil ⟨by show 0 ≤ sizeLine; exact Nat.zero_le _, fun p hp => wp_nil ⟨by show 3 ≤ sizeLine; decide, fun t ht => ?_⟩⟩)))))) 
  have t2 := s1.trans s2
  obtain ⟨k3, Fp⟩ := kn_own (o := .lst []) s2.kn hp
  have k4 := (kn_own (o := .tup [u, v, .ref p]) k3 ht).1
  have pt : p ≠ t := fun z => by rw [z] at hp; rw [← z, upd_same] at ht; cases ht
  have ex4 : Ex H (upd (upd H2 p (.lst [])) t (.tup [u, v, .ref p])) := (t2.ex.trans (Ex.new hp)).trans (Ex.new ht)
  refine ⟨t, _, rfl, SqT.of upd_same, rfl, u, [v, .ref p], rfl, v, [.ref p], rfl, .ref p, [], rfl, rfl, k u v p F2 _ ⟨k4, t2.ff, ExM.of ex4, fun a o ha hf => t2.fr a o ha hf⟩ (hu.ex s2.ff) hv Fp (t2.hm.d p hp) (by rw [upd_ne pt, upd_same]) ⟨fun a o _ h => ex4 a o h, exdm ex4⟩⟩
theorem nats_map {ns ms : List Nat} (h : ns = ms) : natsD ns = natsD ms := by rw [h]
theorem cutD_nats_lo (ns : List Nat) (p : Nat) : PyData.list (cutD (ns.map fun (n : Nat) => PyData.int (n : Int)) none (some (p : Int))) = natsD (ns.take p) := by
  rw [cutD_lo, ← List.map_take]
  rfl
theorem cutD_nats_hi (ns : List Nat) (p : Nat) : PyData.list (cutD (ns.map fun (n : Nat) => PyData.int (n : Int)) (some (p : Int)) none) = natsD (ns.drop p) := by
  rw [cutD_hi, ← List.map_drop]
  rfl
theorem cutD_nats_nn (ns : List Nat) (p q : Nat) : PyData.list (cutD (ns.map fun (n : Nat) => PyData.int (n : Int)) (some (p : Int)) (some (q : Int))) = natsD ((ns.drop p).take (q - p)) := by
  rw [cutD_nn, ← List.map_drop, ← List.map_take]
  rfl
end
end WB
/-! Wires by numbers: rows, boxes; an exchange by them. -/
namespace WB
open PySem PySem.Spec PyProof.Rows L2 Evl
/-- the row of a word's wires, the next new one -/
abbrev RowN := List Nat × Nat
def gvN (rs : List Rule) (r : RowN) (s : WStep) : List Nat := (List.range (goL rs s)).map fun k => r.2 + k
def tkN (rs : List Rule) (r : RowN) (s : WStep) : List Nat := (r.1.drop s.1).take (srL rs s)
def stN (rs : List Rule) (r : RowN) (s : WStep) : RowN := (r.1.take s.1 ++ gvN rs r s ++ r.1.drop (s.1 + srL rs s), r.2 + goL rs s)
def row0 (z : Str) : RowN := (List.range z.length, z.length)
def rowN (rs : List Rule) (r : RowN) (ss : List WStep) : RowN := ss.foldl (stN rs) r
structure Bx where
  s : WStep
  tk : List Nat
  gv : List Nat
def bxN (rs : List Rule) (r : RowN) (s : WStep) : Bx := ⟨s, tkN rs r s, gvN rs r s⟩
def boxesN (rs : List Rule) : RowN → List WStep → List Bx
  | _, [] => []
  | r, s :: ss => bxN rs r s :: boxesN rs (stN rs r s) ss
def bxD (b : Bx) : PyData := .tuple [.int (b.s.2.1 : Nat), .str (turnS b.s.2.2), natsD b.tk, natsD b.gv]
theorem rowN_snoc (rs : List Rule) (r : RowN) (ss : List WStep) (s : WStep) : rowN rs r (ss ++ [s]) = stN rs (rowN rs r ss) s := by
  unfold rowN
  rw [List.foldl_append]
  rfl
theorem boxesN_snoc (rs : List Rule) : ∀ (r : RowN) (ss : List WStep) (s : WStep), boxesN rs r (ss ++ [s]) = boxesN rs r ss ++ [bxN rs (rowN rs r ss) s]
  | r, [], s => rfl
  | r, t :: ss, s => by
    show bxN rs r t :: boxesN rs (stN rs r t) (ss ++ [s]) = _
    rw [boxesN_snoc rs _ ss s]
    rfl
theorem boxesN_len (rs : List Rule) : ∀ (r : RowN) (ss : List WStep), (boxesN rs r ss).length = ss.length
  | _, [] => rfl
  | r, s :: ss => by
    show (boxesN rs _ ss).length + 1 = ss.length + 1
    rw [boxesN_len rs _ ss]
/-- each wire once, each below the next new one -/
structure RowK (r : RowN) : Prop where
  nd : r.1.Nodup
  lt : ∀ x ∈ r.1, x < r.2
theorem RowK.zero (z : Str) : RowK (row0 z) := ⟨List.nodup_range, fun x h => List.mem_range.mp h⟩
theorem gv_mem {rs : List Rule} {r : RowN} {s : WStep} {x : Nat} (h : x ∈ gvN rs r s) : r.2 ≤ x ∧ x < r.2 + goL rs s := by
  unfold gvN at h
  obtain ⟨k, hk, rfl⟩ := List.mem_map.mp h
  have := List.mem_range.mp hk
  omega
theorem gv_len (rs : List Rule) (r : RowN) (s : WStep) : (gvN rs r s).length = goL rs s := by
  unfold gvN
  rw [List.length_map, List.length_range]
theorem gv_nd (rs : List Rule) (r : RowN) (s : WStep) : (gvN rs r s).Nodup := by
  unfold gvN
  rw [List.Nodup, List.pairwise_map]
  exact List.nodup_range.imp fun h e => h (by omega)
theorem cut3 {α : Type} (xs : List α) (p c : Nat) : xs = xs.take p ++ ((xs.drop p).take c ++ xs.drop (p + c)) := by
  rw [← List.drop_drop, List.take_append_drop, List.take_append_drop]
theorem RowK.next {r : RowN} (k : RowK r) (rs : List Rule) (s : WStep) : RowK (stN rs r s) := by
  have sp := cut3 r.1 s.1 (srL rs s)
  have nd := k.nd
  have sub1 : ∀ x ∈ r.1.take s.1, x ∈ r.1 := fun x h => List.mem_of_mem_take h
  have sub2 : ∀ x ∈ r.1.drop (s.1 + srL rs s), x ∈ r.1 := fun x h => List.mem_of_mem_drop h
  rw [sp] at nd
  obtain ⟨n1, n2, n3⟩ := List.nodup_append.mp nd
  obtain ⟨m1, m2, m3⟩ := List.nodup_append.mp n2
  refine ⟨?_, fun x hx => ?_⟩
  · show (r.1.take s.1 ++ gvN rs r s ++ r.1.drop (s.1 + srL rs s)).Nodup
    refine List.nodup_append.mpr ⟨List.nodup_append.mpr ⟨n1, gv_nd rs r s, fun a ha b hb e => ?_⟩, m2, fun a ha b hb e => ?_⟩
    · have := k.lt a (sub1 a ha)
      have := gv_mem hb
      omega
    · rcases List.mem_append.mp ha with h | h
      · exact n3 a h b (List.mem_append.mpr (.inr hb)) e
      · have := gv_mem h
        have := k.lt b (sub2 b hb)
        omega
  · show x < r.2 + goL rs s
    rcases List.mem_append.mp (show x ∈ r.1.take s.1 ++ gvN rs r s ++ r.1.drop (s.1 + srL rs s) from hx) with h | h
    · rcases List.mem_append.mp h with h | h
      · have := k.lt x (sub1 x h)
        omega
      · exact (gv_mem h).2
    · have := k.lt x (sub2 x h)
      omega
theorem RowK.at_ {rs : List Rule} : ∀ {r : RowN} {ss : List WStep}, RowK r → RowK (rowN rs r ss)
  | _, [], k => k
  | r, s :: ss, k => RowK.at_ (r := stN rs r s) (ss := ss) (k.next rs s)
theorem stN_len {rs : List Rule} {r : RowN} {s : WStep} (h : s.1 + srL rs s ≤ r.1.length) : (stN rs r s).1.length = s.1 + goL rs s + (r.1.length - (s.1 + srL rs s)) := by
  show (r.1.take s.1 ++ gvN rs r s ++ r.1.drop (s.1 + srL rs s)).length = _
  rw [List.length_append, List.length_append, List.length_take, gv_len, List.length_drop]
  omega
/-- the row is as long as the word -/
theorem row_word {rs : List Rule} (b : BkOk rs) : ∀ {z : Str} {ss : List WStep} {r : RowN}, WyC rs z ss → r.1.length = z.length → (rowN rs r ss).1.length = (endW rs z ss).length
  | z, [], r, _, h => h
  | z, s :: ss, r, ⟨q, h1, h2, h3⟩, h => by
    have ci := can_in h2 ((b.at_ h1).s0 _)
    have dl := done_len ci
    have e : (stN rs r s).1.length = (doneR q z s).length := by
      rw [stN_len (by rw [srL_eq h1]; omega), dl, srL_eq h1, goL_eq h1]
      omega
    rw [endW_c h1]
    exact row_word b (r := stN rs r s) h3 e
theorem idx_of {xs : List Nat} (nd : xs.Nodup) {i x : Nat} (h : xs[i]? = some x) : xs.idxOf x = i := by
  have l := (List.getElem?_eq_some_iff.mp h).1
  have e : xs[i] = x := (List.getElem?_eq_some_iff.mp h).2
  have m : x ∈ xs := List.mem_of_getElem? h
  have l2 := List.idxOf_lt_length_of_mem m
  have e2 : xs[xs.idxOf x] = x := List.getElem_idxOf l2
  exact (List.getElem_inj nd).mp (e2.trans e.symm)
/-- two steps exchanged, by the wires of the row ahead of them -/
theorem swap_wires {rs : List Rule} {r : RowN} (k : RowK r) {s t : WStep} (g1 : 0 < goL rs s) (s1 : 0 < srL rs s) (g2 : 0 < goL rs t) (s2 : 0 < srL rs t) (h1 : s.1 + srL rs s ≤ r.1.length) (h2 : t.1 + srL rs t ≤ (stN rs r s).1.length) :
    ((tkN rs (stN rs r s) t).any (fun x => decide (x ∈ gvN rs r s)) = true ↔ exch rs s t = none) ∧
    ∀ a b, exch rs s t = some (a, b) → ∃ x y, (tkN rs (stN rs r s) t)[0]? = some x ∧ (tkN rs r s)[0]? = some y ∧ r.1[a.1]? = some x ∧ r.1.idxOf x = a.1 ∧
      (r.1.take a.1 ++ gvN rs (stN rs r s) t ++ r.1.drop (a.1 + srL rs t))[b.1]? = some y ∧ (r.1.take a.1 ++ gvN rs (stN rs r s) t ++ r.1.drop (a.1 + srL rs t)).idxOf y = b.1 := by
  have kk := k.next rs s
  have len := stN_len h1
  have at1 : ∀ i, (stN rs r s).1[i]? = if i < s.1 then r.1[i]? else if i < s.1 + goL rs s then some (r.2 + (i - s.1)) else r.1[i - goL rs s + srL rs s]? := fun i => by
    show (r.1.take s.1 ++ gvN rs r s ++ r.1.drop (s.1 + srL rs s))[i]? = _
    have lt1 : (r.1.take s.1).length = s.1 := by rw [List.length_take]; omega
    by_cases c1 : i < s.1
    · rw [if_pos c1, List.append_assoc, List.getElem?_append_left (by omega), List.getElem?_take, if_pos c1]
    · rw [if_neg c1]
      by_cases c2 : i < s.1 + goL rs s
      · rw [if_pos c2, List.append_assoc, List.getElem?_append_right (by omega), List.getElem?_append_left (by rw [gv_len]; omega), lt1]
        unfold gvN
        rw [List.getElem?_map, List.getElem?_range (by omega)]
        rfl
      · rw [if_neg c2, List.getElem?_append_right (by rw [List.length_append, lt1, gv_len]; omega), List.length_append, lt1, gv_len, List.getElem?_drop]
        congr 1
        omega
  have tk2 : ∀ j, j < srL rs t → (tkN rs (stN rs r s) t)[j]? = (stN rs r s).1[t.1 + j]? := fun j hj => by
    unfold tkN
    rw [List.getElem?_take, if_pos hj, List.getElem?_drop]
  have tk1 : (tkN rs r s)[0]? = r.1[s.1]? := by
    unfold tkN
    rw [List.getElem?_take, if_pos s1, List.getElem?_drop, Nat.add_zero]
  constructor
  · constructor
    · intro h
      obtain ⟨x, hx, hg⟩ := List.any_eq_true.mp h
      have hg := of_decide_eq_true hg
      obtain ⟨j, hj⟩ := List.getElem?_of_mem hx
      have jl : j < srL rs t := by
        have l := (List.getElem?_eq_some_iff.mp hj).1
        unfold tkN at l
        rw [List.length_take] at l
        omega
      rw [tk2 j jl, at1] at hj
      have gm := gv_mem hg
      by_cases c1 : t.1 + j < s.1
      · rw [if_pos c1] at hj
        have := k.lt x (List.mem_of_getElem? hj)
        omega
      · rw [if_neg c1] at hj
        by_cases c2 : t.1 + j < s.1 + goL rs s
        · unfold exch
          rw [if_neg (by omega), if_neg (by omega)]
        · rw [if_neg c2] at hj
          have := k.lt x (List.mem_of_getElem? hj)
          omega
    · intro h
      have c1 : ¬ t.1 + srL rs t ≤ s.1 := fun c => by unfold exch at h; rw [if_pos c] at h; cases h
      have c2 : ¬ s.1 + goL rs s ≤ t.1 := fun c => by unfold exch at h; rw [if_neg c1, if_pos c] at h; cases h
      -- a wire of both: at max
      have hj : (max s.1 t.1) - t.1 < srL rs t := by omega
      have e := tk2 _ hj
      rw [at1, if_neg (by omega), if_pos (by omega)] at e
      refine List.any_eq_true.mpr ⟨_, List.mem_of_getElem? e, decide_eq_true ?_⟩
      unfold gvN
      exact List.mem_map.mpr ⟨t.1 + (max s.1 t.1 - t.1) - s.1, List.mem_range.mpr (by omega), rfl⟩
  · intro a b h
    have e0 := tk2 0 s2
    rw [Nat.add_zero, at1] at e0
    have fin : ∀ (p : Nat) (x : Nat), r.1[p]? = some x → r.1.idxOf x = p := fun p x hx => idx_of k.nd hx
    obtain ⟨y, hy⟩ : ∃ y, r.1[s.1]? = some y := ⟨_, List.getElem?_eq_getElem (by omega)⟩
    have rowK : ∀ p, p + srL rs t ≤ r.1.length → (r.1.take p ++ gvN rs (stN rs r s) t ++ r.1.drop (p + srL rs t)).Nodup := fun p hp => by
      have ndr := k.nd
      rw [cut3 r.1 p (srL rs t)] at ndr
      obtain ⟨n1, n2, n3⟩ := List.nodup_append.mp ndr
      obtain ⟨m1, m2, m3⟩ := List.nodup_append.mp n2
      have big : ∀ x ∈ gvN rs (stN rs r s) t, r.2 ≤ x := fun x hx => by
        have := (gv_mem hx).1
        have e : (stN rs r s).2 = r.2 + goL rs s := rfl
        omega
      refine List.nodup_append.mpr ⟨List.nodup_append.mpr ⟨n1, gv_nd _ _ _, fun a ha b hb e => ?_⟩, m2, fun a ha b hb e => ?_⟩
      · have := k.lt a (List.mem_of_mem_take ha)
        have := big b hb
        omega
      · rcases List.mem_append.mp ha with h | h
        · exact n3 a h b (List.mem_append.mpr (.inr hb)) e
        · have := k.lt b (List.mem_of_mem_drop hb)
          have := big a h
          omega
    have glen := gv_len rs (stN rs r s) t
    by_cases c1 : t.1 + srL rs t ≤ s.1
    · unfold exch at h
      rw [if_pos c1] at h
      cases h
      rw [if_pos (show t.1 < s.1 by omega)] at e0
      obtain ⟨x, hx⟩ : ∃ x, r.1[t.1]? = some x := ⟨_, List.getElem?_eq_getElem (by omega)⟩
      have lt : (r.1.take t.1).length = t.1 := by rw [List.length_take]; omega
      have hb : (r.1.take t.1 ++ gvN rs (stN rs r s) t ++ r.1.drop (t.1 + srL rs t))[s.1 + goL rs t - srL rs t]? = some y := by
        rw [List.getElem?_append_right (by rw [List.length_append, lt, glen]; omega), List.length_append, lt, glen, List.getElem?_drop]
        rw [show t.1 + srL rs t + (s.1 + goL rs t - srL rs t - (t.1 + goL rs t)) = s.1 by omega]
        exact hy
      exact ⟨x, y, e0.trans hx, tk1.trans hy, hx, fin _ _ hx, hb, idx_of (rowK t.1 (by omega)) hb⟩
    · unfold exch at h
      rw [if_neg c1] at h
      by_cases c2 : s.1 + goL rs s ≤ t.1
      · rw [if_pos c2] at h
        cases h
        rw [if_neg (by omega), if_neg (by omega)] at e0
        obtain ⟨x, hx⟩ : ∃ x, r.1[t.1 - goL rs s + srL rs s]? = some x := ⟨_, List.getElem?_eq_getElem (by omega)⟩
        have hb : (r.1.take (t.1 - goL rs s + srL rs s) ++ gvN rs (stN rs r s) t ++ r.1.drop (t.1 - goL rs s + srL rs s + srL rs t))[s.1]? = some y := by
          rw [List.append_assoc, List.getElem?_append_left (by rw [List.length_take]; omega), List.getElem?_take, if_pos (by omega)]
          exact hy
        exact ⟨x, y, e0.trans hx, tk1.trans hy, hx, fin _ _ hx, hb, idx_of (rowK _ (by omega)) hb⟩
      · rw [if_neg c2] at h
        cases h
end WB
/-! Walks of texts; the smaller of two; items of dicts. -/
namespace WB
open PySem PySem.Spec PyProof.Rows L2 Evl
theorem u1 {k : Nat} {A : Around} (r : Room k A) : A.units + 1 < cLine := Nat.lt_of_le_of_lt (Nat.add_le_add_left (by decide) _) (u65 r)
section
variable {K : PySem.W.Frag} {σ : L2.St} {F H : Hp} {ta tb te : TE}
theorem itd_str {G : Hp} {z : Str} : ItD (Its z) G (letsD z) where
  go := fun i H e hi => by
    have l : (letsD z).length = z.cps.size := by unfold letsD; rw [List.length_map]; rfl
    rw [l] at hi
    exact hi
  yld := fun i H x H' e hi ⟨e1, c, e2, e3⟩ => by
    subst e1 e3
    refine ⟨Ex.refl _, fun d hd => ?_⟩
    unfold letsD at hd
    rw [List.getElem?_map, Array.getElem?_toList, e2] at hd
    cases hd
    exact .str _
  stop := fun i H e hi => by
    have l : (letsD z).length = z.cps.size := by unfold letsD; rw [List.length_map]; rfl
    rw [l] at hi
    exact hi
theorem wk_str {z : Str} (h : EvD te σ F (.str z)) : WkD (iStr te) σ F (letsD z) := fun H1 e R q => h H1 e _ fun v H2 e2 hv => ⟨z, hv.str_, q _ H2 e2 itd_str⟩
abbrev rMin2 : List V → Hp → VK → Prop := fun xs H Q => ∃ i j, xs = [.int i, .int j] ∧ Q (.int (if j < i then j else i)) H
theorem d_min2 {i j : Int} (ha : EvD ta σ F (.int i)) (hb : EvD tb σ F (.int j)) : EvD (tCB rMin2 (tCons ta (tCons tb tNil))) σ F (.int (if j < i then j else i)) := fun H1 e Q q =>
  ha H1 e _ fun x H2 e2 hx => hb H2 (e.trans e2) _ fun y H3 e3 hy => ⟨i, j, by rw [hx.int_, hy.int_], q _ H3 (e2.trans e3) (.int _)⟩
theorem d_dget {p : Addr} {kvs : List (Key × V)} {k y : Str} (ha : Ev ta σ F (.ref p)) (hk : EvD tb σ F (.str k)) (hF : F p = some (.dK kvs)) (hv : valV kvs (.inr k) = some (.str y)) : EvD (tDGet ta tb) σ F (.str y) := fun H1 e Q q =>
  ha H1 e _ fun H2 e2 => hk H2 (e.trans e2) _ fun u H3 e3 hu => ⟨p, .str y, rfl, .inl ⟨kvs, .inr k, .inl (((e.trans e2).trans e3) _ _ hF), hu.str_, hv.symm⟩, q _ H3 (e2.trans e3) (.str y)⟩
theorem four_vals (a b c d : V) : valV (mergeK [] (zipK "abcx" [a, b, c, d])) (.inr "a") = some a ∧ valV (mergeK [] (zipK "abcx" [a, b, c, d])) (.inr "b") = some b ∧ valV (mergeK [] (zipK "abcx" [a, b, c, d])) (.inr "c") = some c ∧ valV (mergeK [] (zipK "abcx" [a, b, c, d])) (.inr "x") = some d := ⟨rfl, rfl, rfl, rfl⟩
end
end WB
/-! Comprehensions over rows whose items write. -/
namespace WB
open PySem PySem.Spec PyProof.Rows L2 Evl
/-- a walk over what is known; it makes nothing -/
structure ItS (J : It) (F : Hp) (ds : List PyData) : Prop where
  go : ∀ i H, Ex F H → i < ds.length → J.go i H
  yld : ∀ i H x H', Ex F H → i < ds.length → J.yld i H x H' → H' = H ∧ ∃ d, ds[i]? = some d ∧ Dt F x d
  stop : ∀ i H, Ex F H → ds.length ≤ i → J.stop i H
section
variable {M : Addr → Prop} {K : PySem.W.Frag} {F0 H0 F H : Hp} {σ : L2.St} {ta tb te tl : TE} {d : PyData} {ds : List PyData} {Q : VK} {k : Bool}
theorem its_list {a : Addr} {xs : List V} (h : F a = some (.lst xs)) (hd : DtAll F xs ds) : ItS (Itl K a) F ds where
  go := fun i H e hi => (itd_list (K := K) h hd).go i H e hi
  yld := fun i H x H' e hi y => by
    have y1 := y
    obtain ⟨e1, e2⟩ := y
    refine ⟨e1, ds[i], List.getElem?_eq_getElem hi, ?_⟩
    obtain ⟨v, h1, h2⟩ := hd.get (List.getElem?_eq_getElem hi)
    have z := e2 xs (SqL.of (e _ _ h))
    rw [h1] at z
    cases z
    exact h2
  stop := fun i H e hi => (itd_list (K := K) h hd).stop i H e hi
theorem its_tup {a : Addr} {xs : List V} (h : F a = some (.tup xs)) (hd : DtAll F xs ds) : ItS (Itt K a) F ds where
  go := fun i H e hi => (itd_tup (K := K) h hd).go i H e hi
  yld := fun i H x H' e hi y => by
    obtain ⟨e1, e2⟩ := y
    refine ⟨e1, ds[i], List.getElem?_eq_getElem hi, ?_⟩
    obtain ⟨v, h1, h2⟩ := hd.get (List.getElem?_eq_getElem hi)
    have z := e2 xs (SqT.of (e _ _ h))
    rw [h1] at z
    cases z
    exact h2
  stop := fun i H e hi => (itd_tup (K := K) h hd).stop i H e hi
/-- what a walk over a row asks -/
theorem wp_iAny {R : It → Hp → Prop} (kn : Kn M F0 H0 F H) (h : EvD tl σ F (rwD k ds)) (q : ∀ J F1 H1, StpE M F0 H0 F H F1 H1 → ItS J F1 ds → R J H1) : iAny K tl σ H R := by
  cases k
  · exact .inr (k_ev kn h _ fun v F1 H1 s hv => by
      obtain ⟨a, xs, rfl, h1, h2⟩ := Dt.tuple_ hv
      exact ⟨a, rfl, ⟨xs, SqT.of (s.kn.fh _ _ h1)⟩, q _ F1 H1 s (its_tup h1 h2)⟩)
  · exact .inl (k_ev kn h _ fun v F1 H1 s hv => by
      obtain ⟨a, xs, rfl, h1, h2⟩ := Dt.list_ hv
      exact ⟨a, rfl, ⟨xs, SqL.of (s.kn.fh _ _ h1)⟩, q _ F1 H1 s (its_list h1 h2)⟩)
/-- [e for x in row], e may write -/
theorem lc_items {M2 : Addr → Prop} {vs : List Nat} {j : Nat} {J : It} (kn : Kn M F0 H0 F H) (hJ : ItS J F ds) (hm : ds.length ≤ 40000) (I : Nat → List V → Hp → Hp → Prop) (hM2 : ∀ a, M2 a → H a ≠ none)
    (h0 : I 0 [] F H) (hI : ∀ i acc F' H' H'', I i acc F' H' → (∀ a, H a ≠ none → H'' a = H' a) → I i acc F' H'')
    (hs : ∀ i acc F' H' d x, ds[i]? = some d → Dt F x d → acc.length = i → Kn M F0 H0 F' H' → Ex F F' → ExM M2 H H' → I i acc F' H' → ∀ Q' : VK, (∀ v F2 H2, Kn M F0 H0 F2 H2 → Ex F' F2 → ExM M2 H' H2 → (∀ a o, H' a = some o → F' a = none → F2 a = none) → I (i + 1) (acc ++ [v]) F2 H2 → Q' v H2) → te ((wipe σ vs).set j (some x)) H' Q')
    (hD : ∀ D acc F' H', Kn M F0 H0 F' H' → Ex F F' → ExM M2 H H' → (∀ a o, H a = some o → F a = none → F' a = none) → acc.length = ds.length → I ds.length acc F' H' → H' D = some (.lst acc) → F' D = none → H D = none → Q (.ref D) H')
    (hw : ∀ x, wipe ((wipe σ vs).set j (some x)) vs = wipe σ vs := by intro _; rfl) :
    ∀ D, H D = none → ∃ W : Nat → Nat → Hp → Prop, (∃ m, W 0 m (upd H D (.lst []))) ∧ ∀ i k H, W i k H →
      (J.stop i H ∧ Q (.ref D) H) ∨ (J.go i H ∧ ∃ Nx : Hp → Prop, (∀ H', Nx H' → ∃ m', m' < k ∧ W (i + 1) m' H') ∧ ∀ x H', J.yld i H x H' → (gName j) x (wipe σ vs) H' fun σ2 H2 => wipe σ2 vs = wipe σ vs ∧ tYes σ2 H2 fun b H3 =>
        if b = true then te σ2 H3 fun y H4 => ∃ acc, H4 D = some (.lst acc) ∧ acc.length < sizeLine ∧ Nx (upd H4 D (.lst (acc ++ [y]))) else Nx H3) := fun D hDn => by
  have hFD : F D = none := by
    cases z : F D with
    | none => rfl
    | some o => rw [kn.fh _ _ z] at hDn; cases hDn
  have nM2 : ¬ M2 D := fun z => hM2 D z hDn
  refine ⟨fun i k H' => k = ds.length - i ∧ i ≤ ds.length ∧ ∃ F' acc, Kn M F0 H0 F' H' ∧ Ex F F' ∧ ExM M2 H H' ∧ (∀ a o, H a = some o → F a = none → F' a = none) ∧ H' D = some (.lst acc) ∧ F' D = none ∧ acc.length = i ∧ I i acc F' H', ⟨ds.length, by simp, Nat.zero_le _, F, [], kn.upd_ hFD (kn.dm D hDn), Ex.refl _, ExM.of (Ex.new hDn), fun _ _ _ h => h, upd_same, hFD, rfl, hI 0 [] F H _ h0 fun a ha => upd_ne fun z => ha (by rw [z]; exact hDn)⟩, ?_⟩
  rintro i k H' ⟨rfl, hi, F', acc, kn', e', em, fr', hacc, hF', hl, hI'⟩
  have known : Ex F H' := e'.trans kn'.fh
  by_cases hlt : i < ds.length
  · refine .inr ⟨hJ.go i H' known hlt, fun H2 => ∃ F2 acc, Kn M F0 H0 F2 H2 ∧ Ex F F2 ∧ ExM M2 H H2 ∧ (∀ a o, H a = some o → F a = none → F2 a = none) ∧ H2 D = some (.lst acc) ∧ F2 D = none ∧ acc.length = i + 1 ∧ I (i + 1) acc F2 H2, fun H2 p2 => ⟨ds.length - (i + 1), by omega, rfl, hlt, p2⟩, fun x Hn y => ?_⟩
    obtain ⟨rfl, d, hd, hx⟩ := hJ.yld i H' x Hn known hlt y
    refine ⟨hw _, ?_⟩
    show te _ _ _
    refine hs i acc F' _ d x hd hx hl kn' e' em hI' _ fun v F2 H2 k2 e2 m2 fr2 i2 => ?_
    have hD2 := m2.k D _ nM2 hacc
    have f2 := fr2 D _ hacc hF'
    refine ⟨acc, hD2, by rw [hl]; exact sz_lt (by omega), F2, acc ++ [v], k2.upd_ f2 (kn.dm D hDn), e'.trans e2, ⟨fun a o nm h => ?_, (em.trans m2).d.trans fun a h => ?_⟩, fun a o ha hf => ?_, upd_same, f2, by simp [hl], hI _ _ _ _ _ i2 fun a ha => upd_ne fun z => ha (by rw [z]; exact hDn)⟩
    · rw [upd_ne fun z => by rw [z, hDn] at h; cases h]
      exact (em.trans m2).k a o nm h
    · by_cases z : a = D
      · rw [z, upd_same] at h; cases h
      · rw [upd_ne z] at h; exact h
    · cases q : Hn a with
      | none => rw [em.d a q] at ha; cases ha
      | some o' => exact fr2 a o' q (fr' a o ha hf)
  · have ei : i = ds.length := by omega
    subst ei
    exact .inl ⟨hJ.stop _ _ known (Nat.le_refl _), hD D acc F' H' kn' e' em fr' hl hI' hacc hF' hDn⟩
/-- .. as a whole -/
theorem w_lcRow {M2 : Addr → Prop} {vs : List Nat} {j : Nat} (kn : Kn M F0 H0 F H) (h : EvD tl σ F (rwD k ds)) (hm : ds.length ≤ 40000) (I : Nat → List V → Hp → Hp → Prop) (hM2 : ∀ a, M2 a → H a ≠ none)
    (h0 : ∀ F1 H1, StpE M F0 H0 F H F1 H1 → I 0 [] F1 H1) (hI : ∀ i acc F' H' H'', I i acc F' H' → (∀ a, H a ≠ none → H'' a = H' a) → I i acc F' H'')
    (hs : ∀ i acc F' H' d x, ds[i]? = some d → Dt F' x d → acc.length = i → Kn M F0 H0 F' H' → Ex F F' → I i acc F' H' → ∀ Q' : VK, (∀ v F2 H2, Kn M F0 H0 F2 H2 → Ex F' F2 → ExM M2 H' H2 → (∀ a o, H' a = some o → F' a = none → F2 a = none) → I (i + 1) (acc ++ [v]) F2 H2 → Q' v H2) → te ((wipe σ vs).set j (some x)) H' Q')
    (hD : ∀ D acc F' H', Kn M F0 H0 F' H' → Ex F F' → ExM M2 H H' → (∀ a o, H a = some o → F a = none → F' a = none) → acc.length = ds.length → I ds.length acc F' H' → H' D = some (.lst acc) → F' D = none → H0 D = none → Q (.ref D) H')
    (hw : ∀ x, wipe ((wipe σ vs).set j (some x)) vs = wipe σ vs) : tLc (iAny K tl) (gName j) tYes te vs σ H Q :=
  wp_lc (wp_iAny kn h fun J F1 H1 s1 its => lc_items (M2 := M2) s1.kn its hm I (fun a m z => hM2 a m (s1.hm.d a z)) (h0 F1 H1 s1) (fun i acc F' H' H'' a b => hI i acc F' H' H'' a fun c hc => b c fun z => hc (s1.hm.d c z))
    (fun i acc F' H' d x hd hx al kn' eF em hi Q' hQ' => hs i acc F' H' d x hd (hx.ex eF) al kn' (s1.ff.trans eF) hi Q' hQ')
    (fun D acc F' H' kn' eF em frr al hi hD' hF hH => hD D acc F' H' kn' (s1.ff.trans eF) ((ExM.of s1.ex).trans em) (fun a o ha hf => frr a o (s1.ex _ _ ha) (s1.fr a o ha hf)) al hi hD' hF (s1.kn.dm D hH)) hw)
end
/-! ### loosened -/
mutual
/-- each row may have become a list or a tuple -/
inductive Lo : PyData → PyData → Prop
  | sc {d : PyData} : (∀ ds, d ≠ .list ds) → (∀ ds, d ≠ .tuple ds) → Lo d d
  | row {ds es : List PyData} (k k' : Bool) : LoAll ds es → Lo (rwD k ds) (rwD k' es)
inductive LoAll : List PyData → List PyData → Prop
  | nil : LoAll [] []
  | cons {d e : PyData} {ds es : List PyData} : Lo d e → LoAll ds es → LoAll (d :: ds) (e :: es)
end
theorem LoAll.snoc : ∀ {ds es : List PyData} {d e : PyData}, LoAll ds es → Lo d e → LoAll (ds ++ [d]) (es ++ [e])
  | _, _, _, _, .nil, h => .cons h .nil
  | _, _, _, _, .cons a r, h => .cons a (LoAll.snoc r h)
theorem LoAll.len : ∀ {ds es : List PyData}, LoAll ds es → ds.length = es.length
  | _, _, .nil => rfl
  | _, _, .cons _ r => congrArg (· + 1) r.len
theorem Lo.row_ {k : Bool} {ds : List PyData} {e : PyData} (h : Lo (rwD k ds) e) : ∃ k' es, e = rwD k' es ∧ LoAll ds es := by
  generalize q : rwD k ds = d at h
  cases h with
  | sc h1 h2 =>
    cases k
    · exact absurd q.symm (h2 ds)
    · exact absurd q.symm (h1 ds)
  | @row ds' es k2 k' a =>
    have e : ds = ds' := by
      cases k <;> cases k2 <;> cases q <;> rfl
    subst e
    exact ⟨k', es, rfl, a⟩
theorem Lo.sc_ {d e : PyData} (h : Lo d e) (h1 : ∀ ds, d ≠ .list ds) (h2 : ∀ ds, d ≠ .tuple ds) : e = d := by
  cases h with
  | sc _ _ => rfl
  | @row ds' es k2 k' a =>
    cases k2
    · exact absurd rfl (h2 ds')
    · exact absurd rfl (h1 ds')
theorem LoAll.all2 {α : Type} {f : α → PyData} {R : PyData → α → Prop} (h : ∀ a e, Lo (f a) e → R e a) : ∀ {as : List α} {es : List PyData}, LoAll (as.map f) es → All2 R es as
  | [], _, .nil => .nil
  | a :: as, _, .cons x r => .cons (h a _ x) (LoAll.all2 h r)
theorem lo_rules_of {rs : List Rule} {e : PyData} (h : Lo (rulesD rs) e) : LoRs e rs := by
  obtain ⟨k', es, rfl, a⟩ := Lo.row_ (k := true) h
  refine ⟨k', es, rfl, a.all2 fun r e he => ?_⟩
  obtain ⟨j, fs, rfl, b⟩ := Lo.row_ (k := false) he
  cases b with
  | cons x b =>
    cases b with
    | cons y b =>
      cases b
      rw [x.sc_ (fun _ z => nomatch z) (fun _ z => nomatch z), y.sc_ (fun _ z => nomatch z) (fun _ z => nomatch z)]
      exact ⟨j, rfl⟩
theorem lo_steps_of {ss : List WStep} {e : PyData} (h : Lo (stepsD ss) e) : LoSs e ss := by
  obtain ⟨k', es, rfl, a⟩ := Lo.row_ (k := true) h
  refine ⟨k', es, rfl, a.all2 fun s e he => ?_⟩
  obtain ⟨j, fs, rfl, b⟩ := Lo.row_ (k := false) he
  cases b with
  | cons x b =>
    cases b with
    | cons y b =>
      cases b with
      | cons u b =>
        cases b
        rw [x.sc_ (fun _ z => nomatch z) (fun _ z => nomatch z), y.sc_ (fun _ z => nomatch z) (fun _ z => nomatch z), u.sc_ (fun _ z => nomatch z) (fun _ z => nomatch z)]
        exact ⟨j, rfl⟩
mutual
/-- how many rows are in it -/
def cntD : PyData → Nat
  | .list ds => cntDs ds + 1
  | .tuple ds => cntDs ds + 1
  | _ => 0
def cntDs : List PyData → Nat
  | [] => 0
  | d :: ds => cntD d + cntDs ds
end
theorem cntDs_take : ∀ (ds : List PyData) (i : Nat) {d : PyData}, ds[i]? = some d → cntDs (ds.take i) + cntD d ≤ cntDs ds ∧ cntDs (ds.take (i + 1)) = cntDs (ds.take i) + cntD d
  | [], _, _, h => by simp at h
  | e :: ds, 0, d, h => by
    simp at h
    subst h
    simp [cntDs]
  | e :: ds, i + 1, d, h => by
    obtain ⟨h1, h2⟩ := cntDs_take ds i (d := d) (by simpa using h)
    simp only [List.take_succ_cons, cntDs]
    omega
end WB
/-! A def that makes lambdas; data that is itself. -/
namespace WB
open PySem PySem.Spec PyProof.Rows L2 Evl LamX
theorem mk_clT {P : Program} {w : World} {K : PySem.W.Frag} {mg : Str → Option Value} {base : Heap} {N ps : List Str} {k : Nat} {sp : Sp} {x qual : Str} {params : Arguments} {body : List Stmt} {scope : Scope} {p : Str × Option Str} (F : ∃ fd, FunD K x qual params body scope [] [] (He.fAd K p) fd) (hm : mg x = some (.ref (He.fAd K p))) (S : FnScope N ps scope)
    (hb : ∀ (kV doc pm : Value) (an : Option Addr) (cdv ct : Value) (us : List Value), us.length = ps.length → bindArgs (PySem.W.fnOf x qual params body scope .none kV doc pm an cdv ct) ⟨us, []⟩ = pure (ps.zip us))
    (len : ∀ vs H Q E, sp vs H Q E → vs.length = ps.length)
    (hbody : ∀ (A : Around) (outer : List Env) (s : Shared) (H : Hp) (vs : List V) (Q : VK) (E : XK), Room k (A.deeper (envOfC qual scope s.heap.objs.size (He.fAd K p) (.ref (He.codeOf K p)))) → sp vs H Q E →
      ∃ t, PSs (cxOf (L2.CX P w) P w K mg base N qual scope (He.fAd K p) (.ref (He.codeOf K p)) A outer s H E) body t ∧ t { nx := fun _ H' => Q .non H', rt := Q } (start N vs) H) : Cl P w K mg base (k + 1) x ps sp := by
  obtain ⟨fd, F⟩ := F
  exact ⟨_, fd, fun_okC F S len hbody, hm, F.kp, F.bindsN hb⟩
theorem strs2_eqv (a b : Str) : PyData.eqv (.tuple [.str a, .str b]) (.tuple [.str a, .str b]) = true := by simp [PyData.eqv, PyData.eqvAll]
theorem rules_eqv : ∀ rs : List Rule, PyData.eqvAll (rs.map ruleD) (rs.map ruleD) = true
  | [] => by simp [PyData.eqvAll]
  | r :: rs => by simp [PyData.eqvAll, ruleD, strs2_eqv, rules_eqv rs]
theorem step_eqv (s : WStep) : PyData.eqv (stepD s) (stepD s) = true := by simp [stepD, PyData.eqv, PyData.eqvAll]
theorem steps_eqv : ∀ ss : List WStep, PyData.eqvAll (ss.map stepD) (ss.map stepD) = true
  | [] => by simp [PyData.eqvAll]
  | s :: ss => by simp [PyData.eqvAll, step_eqv, steps_eqv ss]
end WB
/-! Numbers in lists of numbers. -/
namespace WB
open PySem PySem.Spec PyProof.Rows L2 Evl
theorem nats_flat (ns : List Nat) : (natsV ns).all flatV = true := by
  unfold natsV
  rw [List.all_map, List.all_eq_true]
  intro _ _
  rfl
theorem eqV_nat (a b : Nat) : eqV (.int (a : Int)) (.int (b : Int)) = decide (a = b) := by
  show decide (((a : Nat) : Int) = ((b : Nat) : Int)) = _
  by_cases h : a = b
  · rw [decide_eq_true h, decide_eq_true (by omega)]
  · rw [decide_eq_false h, decide_eq_false (by omega)]
theorem inV_nats (n : Nat) (ns : List Nat) : inV (.int (n : Int)) (natsV ns) = decide (n ∈ ns) := by
  unfold inV natsV
  rw [List.any_map]
  induction ns with
  | nil => rfl
  | cons a r ih =>
    rw [List.any_cons, ih]
    show (eqV (.int (a : Int)) (.int (n : Int)) || _) = _
    rw [eqV_nat]
    by_cases h : a = n
    · subst h
      simp
    · have h2 : ¬ n = a := fun e => h e.symm
      simp [h, h2]
section
variable {K : PySem.W.Frag} {F : Hp} {σ : L2.St} {ta tb te : TE} {d : PyData}
theorem d_inN {n : Nat} {ns : List Nat} (ha : EvD ta σ F (.int (n : Int))) (hb : EvD tb σ F (natsD ns)) : EvD (tOp (rIn K false) ta tb) σ F (.bool (decide (n ∈ ns))) :=
  d_op ha hb (opS rfl fun H1 x y hx hy Q q => by
    cases hx.int_
    obtain ⟨a, ys, rfl, h2, h3⟩ := hy.list_
    cases nats_of h3
    exact ⟨a, natsV ns, rfl, .inl (SqL.of h2), rfl, nats_flat ns, by rw [inV_nats]; exact q⟩)
theorem d_anyL {bs : List Bool} (h : EvD te σ F (.list (bs.map .bool))) : EvD (tCB (rAny K) (tCons te tNil)) σ F (.bool (bs.any id)) := d_cb (da_cons h da_nil) (cb1 rfl fun H1 x hx Q q => by
  obtain ⟨a, ys, rfl, h2, h3⟩ := hx.list_
  cases h3.bools_
  exact ⟨a, bs, rfl, SqL.of h2, q⟩)
theorem d_idxN {ns : List Nat} {n j : Nat} (ha : EvD ta σ F (natsD ns)) (hb : EvD tb σ F (.int (n : Int))) (hz : ns[j]? = some n) (hj : ns.idxOf n = j) : EvD (tBM K "list" (rIndex K) ta (tCons tb tNil)) σ F (.int (j : Nat)) := fun H1 e Q q =>
  ha H1 e _ fun x H2 e2 hx => by
    obtain ⟨a, xs, rfl, h1, h2⟩ := hx.list_
    cases nats_of h2
    have g1 : H2 a = some (.lst (natsV ns)) := nw_ex (e.trans e2) _ _ h1
    refine ⟨Or.inl ⟨rfl, _, sq_of g1⟩, hb H2 (e.trans e2) _ fun y H3 e3 hy => ?_⟩
    cases hy.int_
    refine ⟨a, natsV ns, .int (n : Int), j, .int (n : Int), rfl, rfl, SqL.of (e3 _ _ g1), rfl, nats_flat ns, by unfold natsV; rw [List.getElem?_map, hz]; rfl, by rw [eqV_nat, decide_eq_true rfl], fun m z' hm hz' => ?_, q _ H3 (e2.trans e3) (.int _)⟩
    unfold natsV at hz'
    rw [List.getElem?_map] at hz'
    cases hm' : ns[m]? with
    | none => rw [hm'] at hz'; cases hz'
    | some u =>
      rw [hm'] at hz'
      cases hz'
      rw [eqV_nat]
      refine decide_eq_false fun eu => ?_
      subst eu
      have l := (List.getElem?_eq_some_iff.mp hm').1
      have e1 : ns[m] = u := (List.getElem?_eq_some_iff.mp hm').2
      have z := List.not_of_lt_findIdx (p := (· == u)) (xs := ns) (i := m) (by rw [← hj] at hm; exact hm)
      rw [e1] at z
      simp at z
end
end WB
/-! Two steps of a Way, the rows at them. -/
namespace WB
open PySem PySem.Spec PyProof.Rows L2 Evl
structure TwoAt (rs : List Rule) (z : Str) (ss : List WStep) (i : Nat) (s t : WStep) (r : RowN) : Prop where
  k : RowK r
  er : rowN rs (row0 z) (ss.take i) = r
  tk : ss.take (i + 2) = ss.take i ++ [s, t]
  bx : (boxesN rs (row0 z) (ss.take (i + 2))).drop i = [bxN rs r s, bxN rs (stN rs r s) t]
  g1 : 0 < goL rs s
  s1 : 0 < srL rs s
  g2 : 0 < goL rs t
  s2 : 0 < srL rs t
  h1 : s.1 + srL rs s ≤ r.1.length
  h2 : t.1 + srL rs t ≤ (stN rs r s).1.length
theorem TwoAt.of {rs : List Rule} (b : BkOk rs) {z : Str} {ss : List WStep} (c : WyC rs z ss) {i : Nat} {s t : WStep} (e1 : ss[i]? = some s) (e2 : ss[i + 1]? = some t) : TwoAt rs z ss i s t (rowN rs (row0 z) (ss.take i)) := by
  have tk1 : ss.take (i + 1) = ss.take i ++ [s] := take_snoc e1
  have tk : ss.take (i + 2) = ss.take i ++ [s, t] := by
    rw [take_snoc e2, tk1, List.append_assoc]
    rfl
  have sp := split2 e1 e2
  have li : i + 1 < ss.length := (List.getElem?_eq_some_iff.mp e2).1
  rw [sp] at c
  obtain ⟨c1, q1, f1, k1, q2, f2, k2, c2⟩ := WyC.app.mp c
  have len0 : (row0 z).1.length = z.length := List.length_range
  have len1 := row_word b c1 len0
  have i1 := can_in k1 ((b.at_ f1).s0 _)
  have i2 := can_in k2 ((b.at_ f2).s0 _)
  have d1 := done_len i1
  have h1 : s.1 + srL rs s ≤ (rowN rs (row0 z) (ss.take i)).1.length := by rw [srL_eq f1, len1]; exact i1
  refine ⟨(RowK.zero z).at_, rfl, tk, ?_, ?_, ?_, ?_, ?_, h1, ?_⟩
  · rw [tk, show ss.take i ++ [s, t] = (ss.take i ++ [s]) ++ [t] by simp, boxesN_snoc, boxesN_snoc, rowN_snoc, List.append_assoc, List.drop_left' (by rw [boxesN_len, List.length_take]; omega)]
    rfl
  · rw [goL_eq f1]; exact Nat.pos_of_ne_zero ((b.at_ f1).g0 _)
  · rw [srL_eq f1]; exact Nat.pos_of_ne_zero ((b.at_ f1).s0 _)
  · rw [goL_eq f2]; exact Nat.pos_of_ne_zero ((b.at_ f2).g0 _)
  · rw [srL_eq f2]; exact Nat.pos_of_ne_zero ((b.at_ f2).s0 _)
  · rw [srL_eq f2, stN_len h1, srL_eq f1, goL_eq f1, len1]
    omega
theorem exch_tail {rs : List Rule} {s t a b : WStep} (h : exch rs s t = some (a, b)) : a.2 = t.2 ∧ b.2 = s.2 := by
  unfold exch at h
  split at h
  · cases h; exact ⟨rfl, rfl⟩
  · split at h
    · cases h; exact ⟨rfl, rfl⟩
    · cases h
end WB
/-! Two steps exchanged, and back; words compared. -/
namespace WB
open PySem PySem.Spec PyProof.Rows L2 Evl
theorem exch_back {rs : List Rule} {s t a b : WStep} (h : exch rs s t = some (a, b)) (g1 : 0 < goL rs s) (s1 : 0 < srL rs s) (g2 : 0 < goL rs t) (s2 : 0 < srL rs t) : exch rs a b = some (s, t) := by
  have ls : ∀ (x y : WStep), x.2 = y.2 → srL rs x = srL rs y ∧ goL rs x = goL rs y := fun x y e => by
    unfold srL goL
    rw [e]
    exact ⟨rfl, rfl⟩
  unfold exch at h
  by_cases c1 : t.1 + srL rs t ≤ s.1
  · rw [if_pos c1] at h
    injection h with h
    injection h with h1 h2
    subst h1 h2
    obtain ⟨e1, e2⟩ := ls (s.1 + goL rs t - srL rs t, s.2) s rfl
    unfold exch
    rw [e1, if_neg (by show ¬ s.1 + goL rs t - srL rs t + srL rs s ≤ t.1; omega), if_pos (by show t.1 + goL rs t ≤ s.1 + goL rs t - srL rs t; omega)]
    congr 3
    show s.1 + goL rs t - srL rs t - goL rs t + srL rs t = s.1
    omega
  · rw [if_neg c1] at h
    by_cases c2 : s.1 + goL rs s ≤ t.1
    · rw [if_pos c2] at h
      injection h with h
      injection h with h1 h2
      subst h1 h2
      unfold exch
      rw [if_pos (by show s.1 + srL rs s ≤ t.1 - goL rs s + srL rs s; omega)]
      congr 3
      show t.1 - goL rs s + srL rs s + goL rs s - srL rs s = t.1
      omega
    · rw [if_neg c2] at h
      cases h
theorem swap_at {ss : List WStep} {i : Nat} {p : WStep × WStep} (h : i + 1 < ss.length) : (swapAt ss i p)[i]? = some p.1 ∧ (swapAt ss i p)[i + 1]? = some p.2 := by
  have l : (ss.take i).length = i := by rw [List.length_take]; omega
  unfold swapAt
  constructor
  · rw [List.append_assoc, List.getElem?_append_right (by omega), l, Nat.sub_self]
    rfl
  · rw [List.append_assoc, List.getElem?_append_right (by omega), l, show i + 1 - i = 1 by omega]
    rfl
theorem swap_back {ss : List WStep} {i : Nat} {s t : WStep} {p : WStep × WStep} (h1 : ss[i]? = some s) (h2 : ss[i + 1]? = some t) : swapAt (swapAt ss i p) i (s, t) = ss := by
  have li : i + 1 < ss.length := (List.getElem?_eq_some_iff.mp h2).1
  have l : (ss.take i).length = i := by rw [List.length_take]; omega
  conv => rhs; rw [split2 h1 h2]
  unfold swapAt
  have e1 : (ss.take i ++ [p.1, p.2] ++ ss.drop (i + 2)).take i = ss.take i := by
    rw [List.append_assoc, List.take_append_of_le_length (by omega), List.take_take, Nat.min_self]
  have e2 : (ss.take i ++ [p.1, p.2] ++ ss.drop (i + 2)).drop (i + 2) = ss.drop (i + 2) := by
    rw [List.drop_left' (by rw [List.length_append, l]; rfl)]
  rw [e1, e2, List.append_assoc]
  rfl
theorem strs_plain : ∀ zs : List Str, plainDs (zs.map PyData.str) = true
  | [] => rfl
  | z :: r => by
    rw [List.map_cons]
    unfold plainDs
    rw [strs_plain r]
    rfl
theorem strs_lay : ∀ zs : List Str, (∀ z ∈ zs, isW z = true) → PyData.canLayAll0 (zs.map PyData.str) = true
  | [], _ => by simp [PyData.canLayAll0]
  | z :: r, h => by
    have h1 := isW_ok (h z (List.mem_cons_self ..))
    simp [PyData.canLayAll0, h1, strs_lay r fun q hq => h q (List.mem_cons_of_mem _ hq)]
theorem strs_depth : ∀ zs : List Str, PyData.depthAll (zs.map PyData.str) = 0
  | [] => by simp [PyData.depthAll]
  | z :: r => by simp [PyData.depthAll, PyData.depth, strs_depth r]
theorem strs_shaped (zs : List Str) (h : ∀ z ∈ zs, isW z = true) : SeqAt.shaped (.list (zs.map PyData.str)) = true := by
  have h1 := strs_depth zs
  have h2 : PyData.depth (.list (zs.map PyData.str)) ≤ 64 := by
    simp only [PyData.depth]
    omega
  show (PyData.canLay0 (.list (zs.map PyData.str)) && decide (PyData.depth (.list (zs.map PyData.str)) ≤ 64)) = true
  rw [Bool.and_eq_true]
  exact ⟨by simp only [PyData.canLay0]; exact strs_lay zs h, decide_eq_true h2⟩
theorem strs_eqv : ∀ zs : List Str, PyData.eqvAll (zs.map PyData.str) (zs.map PyData.str) = true
  | [] => by simp [PyData.eqvAll]
  | z :: r => by simp [PyData.eqvAll, PyData.eqv, strs_eqv r]
theorem endW_w {rs : List Rule} (b : BkOk rs) : ∀ (z : Str) (ss : List WStep), isW z = true → isW (endW rs z ss) = true
  | z, [], h => h
  | z, s :: r, h => by
    rw [endW_s]
    refine endW_w b _ r ?_
    unfold doneS
    cases q : rs[s.2.1]? with
    | none => exact h
    | some u =>
      have ok := b.at_ q
      show isW (doneR u z s) = true
      unfold doneR
      refine isW_app (isW_app (isW_cut h _ _) ?_) (isW_cut h _ _)
      unfold gol
      cases s.2.2
      · exact ok.w1
      · exact ok.w2
theorem words_w {rs : List Rule} (b : BkOk rs) {z : Str} {ss : List WStep} (h : isW z = true) : ∀ x ∈ wordsOf rs z ss, isW x = true := fun x hx => by
  obtain ⟨i, hi⟩ := List.getElem?_of_mem hx
  have l := (List.getElem?_eq_some_iff.mp hi).1
  rw [wordsOf_len] at l
  rw [words_at _ _ _ _ (by omega)] at hi
  cases hi
  exact endW_w b _ _ h
end WB
/-! The empty dict; a list times a number; a power; a walk over a tuple that is made on the way. -/
namespace WB
open PySem PySem.Spec PyProof.Rows L2 Evl
section
variable {K : PySem.W.Frag} {F : Hp} {σ : L2.St} {ta tb te : TE}
theorem d_dnew : EvD tDNewK σ F (.dict []) := fun H1 e Q q => fun p hp => q _ _ (Ex.new hp) (.emp (by rw [nw_n hp, upd_same]))
theorem dta_rep {H : Hp} {vs : List V} {ds : List PyData} (a : DtAll H vs ds) : ∀ k : Nat, DtAll H (List.replicate k vs).flatten (List.replicate k ds).flatten
  | 0 => .nil
  | k + 1 => by
    rw [List.replicate_succ, List.replicate_succ, List.flatten_cons, List.flatten_cons]
    exact a.app (dta_rep a k)
theorem d_rep {ds : List PyData} {k : Int} (ha : EvD ta σ F (.list ds)) (hb : EvD tb σ F (.int k)) (h1 : 0 ≤ k) (h2 : k ≤ 1000) (h3 : ds.length ≤ 1000) : EvD (tOp rRep ta tb) σ F (.list (List.replicate k.toNat ds).flatten) := d_op ha hb fun H1 H2 e e2 x y hx hy Q q => by
  obtain ⟨l, xs, rfl, g1, g2⟩ := hx.list_
  cases hy.int_
  have g : H2 l = some (.lst xs) := nw_ex (e.trans e2) _ _ g1
  refine ⟨l, k, xs, rfl, rfl, g, by omega, by omega, ?_, fun p hp => q _ _ (Ex.new hp) (ls_new e2 hp (dta_rep g2 _))⟩
  have l1 := g2.len
  have : xs.length * k.toNat ≤ 1000 * 1000 := Nat.mul_le_mul (by omega) (by omega)
  exact Nat.le_trans this (by decide)
theorem d_powI {i j : Int} (ha : EvD ta σ F (.int i)) (hb : EvD tb σ F (.int j)) (hc : CPow i j) : EvD (tOp (rI CPow fun i j => .int (i ^ j.toNat)) ta tb) σ F (.int (i ^ j.toNat)) := d_opI (g := fun i j => i ^ j.toNat) ha hb hc
theorem for_tup {D : Ends} {rest : TS} {g : TG} {tu : TS} {H : Hp} (h : te σ H fun v H1 => tSeq (tFor (iTup K (tC v)) g tu) rest D σ H1) : tSeq (tFor (iTup K te) g tu) rest D σ H := h
end
end WB
/-! Several things written side by side: a stream, tables. -/
namespace WB
open PySem PySem.Spec PyProof.Rows L2 Evl
open LamX hiding takes0
section
variable {M N : Addr → Prop} {F0 H0 F H H1 H2 : Hp} {σ : L2.St} {ta tb te tx : TE} {D : Ends} {rest : TS} {Q : VK} {l s P : Addr} {q : Str} {n : Nat}
theorem ExM.mono (h : ∀ a, N a → M a) (e : ExM N H H1) : ExM M H H1 := ⟨fun a o m ha => e.k a o (fun z => m (h a z)) ha, e.d⟩
/-- what a table tells is kept where neither it nor a code object is written -/
theorem tab_keep (t : TabS H P q) (e : ExM N H H1) (hn : ∀ a, N a → a ≠ P ∧ ∀ c q', H a ≠ some (CodeO c q')) : TabS H1 P q := by
  obtain ⟨ps, h1, h2, h3⟩ := t
  refine ⟨ps, e.k _ _ (fun z => (hn _ z).1 rfl) h1, h2, fun pos cv hc => ?_⟩
  obtain ⟨c, e1, e2⟩ := h3 pos cv hc
  exact ⟨c, e1, e.k _ _ (fun z => (hn _ z).2 _ _ e2) e2⟩
theorem codeO_lst {c : Addr} {q : Str} {xs : List V} : some (HO.lst xs) ≠ some (CodeO c q) := fun z => by
  unfold CodeO at z
  cases z
theorem codeO_tbl {c : Addr} {q : Str} {ps : Array Value} : some (HO.tbl ps) ≠ some (CodeO c q) := fun z => codeO_ne ps (Option.some.inj z).symm
theorem tab_ms (t : TabS H P q) (st : StA l s n H) (e : ExM (Ms l s) H H1) : TabS H1 P q := tab_keep t e fun a m => by
  obtain ⟨ps, h1, _⟩ := t
  obtain ⟨xs, x, y, z, g1, g2, _⟩ := st
  rcases m with rfl | rfl
  · exact ⟨fun w => (by rw [w, h1] at g1; cases g1), fun c q' => by rw [g1]; exact codeO_lst⟩
  · exact ⟨fun w => (by rw [w, h1] at g2; cases g2), fun c q' => by rw [g2]; exact codeO_lst⟩
theorem tab_tb {P2 : Addr} {q2 : Str} (t : TabS H P q) (t2 : TabS H P2 q2) (ne : P ≠ P2) (e : ExM (fun a => a = P2) H H1) : TabS H1 P q := tab_keep t e fun a m => by
  obtain ⟨ps, h1, _⟩ := t2
  subst m
  exact ⟨fun w => ne w.symm, fun c q' => by rw [h1]; exact codeO_tbl⟩
theorem st_tb (st : StA l s n H) (t : TabS H P q) (e : ExM (fun a => a = P) H H1) : StA l s n H1 := by
  obtain ⟨ps, h1, _⟩ := t
  obtain ⟨xs, x, y, z, g1, g2, g3⟩ := st
  exact ⟨xs, x, y, z, e.k _ _ (fun w => by rw [w, h1] at g1; cases g1) g1, e.k _ _ (fun w => by rw [w, h1] at g2; cases g2) g2, g3⟩
theorem wp_next {D : Ends} (h : D.nx σ H) : tNext D σ H := h
/-- a call that draws, where more may be written -/
theorem gm_call {α : Type} {k : α → Nat} {args : α → Hp → List V → Prop} {res : α → Hp → V → Prop} {E : XK} {tl : TA} {i : Nat} (x : α) (hM : ∀ a, Ms l s a → M a) (kn : Kn M F0 H0 F H) (st : StA l s n H) (hn : n + k x ≤ 1000000) (hi : σ[i]? = some (some (.ref l))) (h : EvPA tl σ F (args x)) (mo : Mo (res x))
    (k' : ∀ v F1 H1, Stp M F0 H0 F H F1 H1 → ExM (Ms l s) H H1 → StA l s (n + k x) H1 → res x F1 v → Q v H1) : tCall (SpM k args res) [] E (tCons (tVar i) tl) σ H Q := by
  refine ⟨.ref l, hi, h H kn.fh _ fun xs H2 e2 hx => ?_⟩
  show SpM k args res ((.ref l :: xs) ++ []) H2 Q E
  rw [List.append_nil]
  have st2 := st.ex e2
  have nl : ∀ a, Ms l s a → nw F H H2 a = none := fun a m => by
    cases z : H a with
    | none => exact absurd z (st.has a m)
    | some o => rw [nw_s z]; exact kn.md a (hM a m)
  refine ⟨nw F H H2, x, l, s, n, xs, rfl, nw_ex (kn.fh.trans e2), nl l (.inl rfl), nl s (.inr rfl), st2, hn, hx, fun v H3 e3 st3 hv => k' v _ H3 (kn.stepM (ExM.mono hM ((ExM.of e2).trans e3))) ((ExM.of e2).trans e3) st3 (mo _ _ _ (fun a o ha => ?_) hv)⟩
  cases z : H2 a with
  | none =>
    rw [nw_n z] at ha
    rw [nw_n (exdm e2 a z)]
    exact ha
  | some o' =>
    rw [nw_s z] at ha
    exact nw_r (exn_m e3 st.has) a o ha
/-- making an instance: first the arguments -/
theorem make_of {C : Addr} {sp : Sp} {E : XK} {t : TA} (h : t σ H fun vs H1 => tMake C sp [] E (fun _ H Q => Q vs H) σ H1 Q) : tMake C sp [] E t σ H Q := h
theorem pa_c {vs : List V} {B : Hp → List V → Prop} (h : B F vs) (mo : MoA B) : EvPA (fun _ H Q => Q vs H) σ F B := fun H1 e _ q => q vs H1 (Ex.refl H1) (mo _ _ _ (ex_nw e) h)
/-- [e for j in range(m)], e may write, what holds may speak of what was made on the way -/
theorem lc_range {m : Nat} {vs : List Nat} {j : Nat} (kn : Kn M F0 H0 F H) (hm : m ≤ 40000) (I : Nat → List V → Hp → Hp → Prop) (hM2 : ∀ a, N a → H a ≠ none)
    (h0 : I 0 [] F H) (hI : ∀ i acc F' H' D ys, I i acc F' H' → H D = none → (H' D = none ∨ ∃ xs, H' D = some (.lst xs)) → I i acc F' (upd H' D (.lst ys)))
    (hs : ∀ i acc F' H', i < m → acc.length = i → Kn M F0 H0 F' H' → Ex F F' → ExM N H H' → I i acc F' H' → ∀ Q' : VK, (∀ v F2 H2, Kn M F0 H0 F2 H2 → Ex F' F2 → ExM N H' H2 → (∀ a o, H' a = some o → F' a = none → F2 a = none) → I (i + 1) (acc ++ [v]) F2 H2 → Q' v H2) → te ((wipe σ vs).set j (some (.int (0 + (i : Nat))))) H' Q')
    (hD : ∀ D acc F' H', Kn M F0 H0 F' H' → Ex F F' → ExM N H H' → (∀ a o, H a = some o → F a = none → F' a = none) → acc.length = m → I m acc F' H' → H' D = some (.lst acc) → F' D = none → H D = none → Q (.ref D) H')
    (hw : ∀ x, wipe ((wipe σ vs).set j (some x)) vs = wipe σ vs := by intro _; rfl) :
    ∀ D, H D = none → ∃ W : Nat → Nat → Hp → Prop, (∃ m, W 0 m (upd H D (.lst []))) ∧ ∀ i k H, W i k H →
      ((Itr 0 m).stop i H ∧ Q (.ref D) H) ∨ ((Itr 0 m).go i H ∧ ∃ Nx : Hp → Prop, (∀ H', Nx H' → ∃ m', m' < k ∧ W (i + 1) m' H') ∧ ∀ x H', (Itr 0 m).yld i H x H' → (gName j) x (wipe σ vs) H' fun σ2 H2 => wipe σ2 vs = wipe σ vs ∧ tYes σ2 H2 fun b H3 =>
        if b = true then te σ2 H3 fun y H4 => ∃ acc, H4 D = some (.lst acc) ∧ acc.length < sizeLine ∧ Nx (upd H4 D (.lst (acc ++ [y]))) else Nx H3) := fun D hDn => by
  have hFD : F D = none := by
    cases z : F D with
    | none => rfl
    | some o => rw [kn.fh _ _ z] at hDn; cases hDn
  have nM2 : ¬ N D := fun z => hM2 D z hDn
  refine ⟨fun i k H' => k = m - i ∧ i ≤ m ∧ ∃ F' acc, Kn M F0 H0 F' H' ∧ Ex F F' ∧ ExM N H H' ∧ (∀ a o, H a = some o → F a = none → F' a = none) ∧ H' D = some (.lst acc) ∧ F' D = none ∧ acc.length = i ∧ I i acc F' H', ⟨m, by simp, Nat.zero_le _, F, [], kn.upd_ hFD (kn.dm D hDn), Ex.refl _, ExM.of (Ex.new hDn), fun _ _ _ h => h, upd_same, hFD, rfl, hI 0 [] F H D [] h0 hDn (.inl hDn)⟩, ?_⟩
  rintro i k H' ⟨rfl, hi, F', acc, kn', e', em, fr', hacc, hF', hl, hI'⟩
  by_cases hlt : i < m
  · refine .inr ⟨hlt, fun H2 => ∃ F2 acc, Kn M F0 H0 F2 H2 ∧ Ex F F2 ∧ ExM N H H2 ∧ (∀ a o, H a = some o → F a = none → F2 a = none) ∧ H2 D = some (.lst acc) ∧ F2 D = none ∧ acc.length = i + 1 ∧ I (i + 1) acc F2 H2, fun H2 p2 => ⟨m - (i + 1), by omega, rfl, hlt, p2⟩, fun x Hn y => ?_⟩
    obtain ⟨rfl, rfl⟩ := y
    refine ⟨hw _, ?_⟩
    show te _ _ _
    refine hs i acc F' _ hlt hl kn' e' em hI' _ fun v F2 H2 k2 e2 m2 fr2 i2 => ?_
    have hD2 := m2.k D _ nM2 hacc
    have f2 := fr2 D _ hacc hF'
    refine ⟨acc, hD2, by rw [hl]; exact sz_lt (by omega), F2, acc ++ [v], k2.upd_ f2 (kn.dm D hDn), e'.trans e2, ⟨fun a o nm h => ?_, (em.trans m2).d.trans fun a h => ?_⟩, fun a o ha hf => ?_, upd_same, f2, by simp [hl], hI _ _ _ _ _ _ i2 hDn (.inr ⟨acc, hD2⟩)⟩
    · rw [upd_ne fun z => by rw [z, hDn] at h; cases h]
      exact (em.trans m2).k a o nm h
    · by_cases z : a = D
      · rw [z, upd_same] at h; cases h
      · rw [upd_ne z] at h; exact h
    · cases q : Hn a with
      | none => rw [em.d a q] at ha; cases ha
      | some o' => exact fr2 a o' q (fr' a o ha hf)
  · have ei : i = m := by omega
    subst ei
    exact .inl ⟨Nat.le_refl _, hD D acc F' H' kn' e' em fr' hl hI' hacc hF' hDn⟩
/-- .. as a whole -/
theorem w_lcRange {te1 : TE} {vs : List Nat} {j : Nat} {n : Int} (kn : Kn M F0 H0 F H) (h1 : EvD te1 σ F (.int n)) (hb : -(2 ^ 62) ≤ n ∧ n < 2 ^ 62) (hm : n.toNat ≤ 40000)
    (k : ∀ F1 H1, StpE M F0 H0 F H F1 H1 → ∃ (N : Addr → Prop) (I : Nat → List V → Hp → Hp → Prop), (∀ a, N a → H1 a ≠ none) ∧ I 0 [] F1 H1 ∧
      (∀ i acc F' H' D ys, I i acc F' H' → H1 D = none → (H' D = none ∨ ∃ xs, H' D = some (.lst xs)) → I i acc F' (upd H' D (.lst ys))) ∧
      (∀ i acc F' H', i < n.toNat → acc.length = i → Kn M F0 H0 F' H' → Ex F1 F' → ExM N H1 H' → I i acc F' H' → ∀ Q' : VK, (∀ v F2 H2, Kn M F0 H0 F2 H2 → Ex F' F2 → ExM N H' H2 → (∀ a o, H' a = some o → F' a = none → F2 a = none) → I (i + 1) (acc ++ [v]) F2 H2 → Q' v H2) → te ((wipe σ vs).set j (some (.int (0 + (i : Nat))))) H' Q') ∧
      (∀ D acc F' H', Kn M F0 H0 F' H' → Ex F1 F' → ExM N H1 H' → acc.length = n.toNat → I n.toNat acc F' H' → H' D = some (.lst acc) → F' D = none → H1 D = none → Q (.ref D) H'))
    (hw : ∀ x, wipe ((wipe σ vs).set j (some x)) vs = wipe σ vs := by intro _; rfl) : tLc (iRng1 (tCons te1 tNil)) (gName j) tYes te vs σ H Q :=
  wp_lc (wp_rng1 (da_cons h1 da_nil H kn.fh _ fun vs7 H7 e7 hv7 => by
    obtain ⟨y, rfl, hy⟩ := da1_ hv7
    cases hy.int_
    have s := kn.step e7
    obtain ⟨N, I, k1, k2, k3, k4, k5⟩ := k _ H7 s
    exact ⟨n, rfl, hb.1, hb.2, lc_range s.kn hm I k1 k2 k3 k4 (fun D acc F' H' a b c _ e f g h i => k5 D acc F' H' a b c e f g h i) hw⟩))
end
end WB
/-! Comprehensions of new lists. -/
namespace WB
open PySem PySem.Spec PyProof.Rows L2 Evl
section
variable {M : Addr → Prop} {K : PySem.W.Frag} {F0 H0 F H : Hp} {σ : L2.St} {ta tb te tx : TE} {t u : TT} {d d1 d2 d3 : PyData} {v : V} {D : Ends} {tu tw : TS} {g : TG} {wi : TI} {items : List PyData}
/-- .. of trees of new lists: at turn i, the item d, b: is it taken, r: what is made of it -/
theorem er_lc {vs : List Nat} (h : WkD wi σ F items) (hz : items.length ≤ 40000) (b : Nat → Bool) (r : Nat → PyData)
    (hs : ∀ i d x F' H', items[i]? = some d → Ex F F' → Ex F' H' → Dt F' x d → ∀ Q : L2.St → Hp → Prop, (∀ σ2, wipe σ2 vs = wipe σ vs → EvT t σ2 F' (b i) → (b i = true → EvR te σ2 F' F' (r i)) → Q σ2 H') → g x (wipe σ vs) H' Q) :
    EvR (tLc wi g t te vs) σ F F (.list (((List.range items.length).filter b).map r)) := fun H0 e0 Q q => h H0 e0 _ fun J H1 e1 hj Dl hD => by
  have fn : ∀ n, ((List.range n).filter b).length ≤ n := fun n => by
    have z := List.length_filter_le b (List.range n)
    rw [List.length_range] at z
    exact z
  refine ⟨fun i m H' => m = items.length - i ∧ i ≤ items.length ∧ Ex H1 H' ∧ ∃ acc as, H' Dl = some (.lst acc) ∧ TrAll (but (nw F H0 H') Dl) acc (((List.range i).filter b).map r) as ∧ as.Nodup ∧ (∀ a ∈ as, H0 a = none), ⟨items.length, by simp, Nat.zero_le _, Ex.new hD, [], [], upd_same, .nil, List.nodup_nil, fun a z => nomatch z⟩, ?_⟩
  rintro i m H' ⟨rfl, hi, eH, acc, as, hacc, ha, nd, hn0⟩
  have hG : Ex (nw F H0 H1) H' := (nw_ex (e0.trans e1)).trans eH
  have hDF : ∀ o, nw F H0 H1 Dl = some o → False := fun o z => by
    have := nw_ex (e0.trans e1) Dl o z
    rw [hD] at this
    cases this
  have hDn : H0 Dl = none := exdm e1 Dl hD
  by_cases hlt : i < items.length
  · refine .inr ⟨hj.go i H' hG hlt, fun H2 => Ex H1 H2 ∧ ∃ acc as, H2 Dl = some (.lst acc) ∧ TrAll (but (nw F H0 H2) Dl) acc (((List.range (i + 1)).filter b).map r) as ∧ as.Nodup ∧ (∀ a ∈ as, H0 a = none), fun H2 ⟨e2, p2⟩ => ⟨items.length - (i + 1), by omega, rfl, hlt, e2, p2⟩, fun x H2 y => ?_⟩
    obtain ⟨e2, hx⟩ := hj.yld i H' x H2 hG hlt y
    have hd := hx items[i] (List.getElem?_eq_getElem hlt)
    -- what is known: F, what is new since H0, but the list itself
    have kF : Ex F (but (nw F H0 H2) Dl) := fun a o z => by
      have za : a ≠ Dl := fun q => hDF o (by rw [← q]; exact ex_nw e0 a o z)
      rw [but_ne za]
      exact ex_nw e0 a o z
    have kH : Ex (but (nw F H0 H2) Dl) H2 := fun a o z => by
      by_cases za : a = Dl
      · rw [za, but_same] at z; cases z
      · rw [but_ne za] at z; exact nw_ex (((e0.trans e1).trans eH).trans e2) a o z
    have hx' : Dt (but (nw F H0 H2) Dl) x items[i] := hd.ex fun a o z => by
      cases q : H' a with
      | none =>
        rw [nw_n q] at z
        have za : a ≠ Dl := fun w => by rw [w, hacc] at q; cases q
        rw [but_ne za, nw_n (exdm (e1.trans eH) a q)]
        exact z
      | some u =>
        rw [nw_s q] at z
        have za : a ≠ Dl := fun w => hDF o (by rw [← w]; exact z)
        rw [but_ne za]
        exact nw_r (exexn (eH.trans e2)) a o z
    refine hs i items[i] x _ H2 (List.getElem?_eq_getElem hlt) kF kH hx' _ fun σ2 hw ht he => ⟨hw, ht H2 kH _ fun H3 e3 => ?_⟩
    have haa : TrAll (but (nw F H0 H2) Dl) acc (((List.range i).filter b).map r) as := ha.ex fun a o z => by
      by_cases za : a = Dl
      · rw [za, but_same] at z; cases z
      · rw [but_ne za] at z ⊢; exact nw_r (exexn e2) a o z
    have toH : ∀ H4, Ex H2 H4 → ∀ u, Ex (but (nw F H0 H2) Dl) (but (nw F H0 (upd H4 Dl u)) Dl) := fun H4 e4 u a o z => by
      by_cases za : a = Dl
      · rw [za, but_same] at z; cases z
      · rw [but_ne za] at z ⊢
        cases q : H0 a with
        | none => rw [nw_n q] at z ⊢; rw [upd_ne za]; exact e4 a o z
        | some w => rw [nw_s q] at z ⊢; exact z
    have el : ((List.range (i + 1)).filter b).map r = ((List.range i).filter b).map r ++ (if b i = true then [r i] else []) := by
      rw [List.range_succ, List.filter_append, List.map_append, List.filter_cons]
      by_cases z : b i = true
      · rw [if_pos z, if_pos z]; rfl
      · rw [if_neg z, if_neg z]; rfl
    cases hb : b i with
    | true =>
      show te σ2 H3 fun y H4 => ∃ acc, H4 Dl = some (.lst acc) ∧ acc.length < sizeLine ∧ _
      refine he hb H3 (kH.trans e3) _ fun v H4 as2 e4 hv nd2 hn2 => ⟨acc, e4 _ _ (e3 _ _ (e2 _ _ hacc)), ?_, fun a o z => ?_, acc ++ [v], as ++ as2, upd_same, ?_, ?_, ?_⟩
      · rw [ha.dt.len, List.length_map]
        exact sz_lt (Nat.lt_of_le_of_lt (fn i) (by omega))
      · rw [upd_ne (fun w => by rw [w, hD] at z; cases z)]
        exact e4 a o (e3 a o (e2 a o (eH a o z)))
      · rw [el, if_pos hb]
        refine (haa.ex (toH H4 (e3.trans e4) _)).app (.one (hv.ex fun a o z => ?_))
        cases q : H3 a with
        | none =>
          rw [nw_n q] at z
          have za : a ≠ Dl := fun w => by rw [w, e3 _ _ (e2 _ _ hacc)] at q; cases q
          have q0 : H0 a = none := exdm (((e1.trans eH).trans e2).trans e3) a q
          rw [but_ne za, nw_n q0, upd_ne za]
          exact z
        | some w =>
          rw [nw_s q] at z
          exact toH H4 (e3.trans e4) _ a o z
      · refine List.nodup_append.mpr ⟨nd, nd2, fun a ha1 c hc1 e => ?_⟩
        obtain ⟨xs, z⟩ := haa.has a ha1
        have z3 := e3 _ _ (kH _ _ z)
        rw [e, hn2 c hc1] at z3
        cases z3
      · intro a m
        rcases List.mem_append.mp m with m | m
        · exact hn0 a m
        · exact exdm (((e1.trans eH).trans e2).trans e3) a (hn2 a m)
    | false =>
      show Ex H1 H3 ∧ _
      refine ⟨(eH.trans e2).trans e3, acc, as, e3 _ _ (e2 _ _ hacc), ?_, nd, hn0⟩
      rw [el, hb, if_neg (by decide), List.append_nil]
      refine haa.ex fun a o z => ?_
      by_cases za : a = Dl
      · rw [za, but_same] at z; cases z
      · rw [but_ne za] at z ⊢; exact nw_r (exexn e3) a o z
  · have ei : i = items.length := by omega
    subst ei
    refine .inl ⟨hj.stop _ H' hG (Nat.le_refl _), q _ H' (Dl :: as) (e1.trans eH) (.lst ?_ (ha.ex fun a o z => ?_)) (List.nodup_cons.mpr ⟨fun m => ?_, nd⟩) fun a m => ?_⟩
    · rw [nw_n hDn]; exact hacc
    · by_cases za : a = Dl
      · rw [za, but_same] at z; cases z
      · rw [but_ne za] at z; exact z
    · obtain ⟨xs, z⟩ := ha.has Dl m
      rw [but_same] at z
      cases z
    · rcases List.mem_cons.mp m with w | w
      · rw [w]; exact hDn
      · exact hn0 a w
/-- a comprehension of numbers is new -/
theorem er_flat {vs : List Nat} (h : WkD wi σ F items) (hz : items.length ≤ 40000) (b : Nat → Bool) (r : Nat → Nat)
    (hs : ∀ i d x F' H', items[i]? = some d → Ex F F' → Ex F' H' → Dt F' x d → ∀ Q : L2.St → Hp → Prop, (∀ σ2, wipe σ2 vs = wipe σ vs → EvT t σ2 F' (b i) → (b i = true → Ev te σ2 F' (.int (r i : Nat))) → Q σ2 H') → g x (wipe σ vs) H' Q) :
    EvR (tLc wi g t te vs) σ F F (natsD (((List.range items.length).filter b).map r)) := by
  have z := er_lc (t := t) (te := te) (g := g) h hz b (fun i => PyData.int (r i : Nat)) fun i d x F' H' h1 h2 h3 h4 Q hQ => hs i d x F' H' h1 h2 h3 h4 Q fun σ2 hw ht he => hQ σ2 hw ht fun hb => fun H1 e Q q => he hb H1 e Q fun H2 e2 => q _ H2 [] e2 (.int _) List.nodup_nil fun a m => nomatch m
  refine z.is ?_
  unfold natsD
  rw [List.map_map]
  rfl
end
/-- the truth of a number -/
def tTru (K : PySem.W.Frag) (ta : TE) : TT := fun σ H Q => ta σ H fun x H' => ∃ k, TruV K x H' k ∧ Q k H'
theorem pt_tru {X : Cx} {K : PySem.W.Frag} {a : Expr} {ta : TE} (hK : X.K = K) (ha : PE X a ta) (he : ∀ whole, isTrue a X.env whole = (do let v ← whole; standAt a.pos; holding [v] (truthy v))) : PT X a (tTru K ta) := by
  subst hK
  exact pt_truth ha he
end WB
/-! Readings over what stands now (G), of values known for good (F) or new. -/
namespace WB
open PySem PySem.Spec PyProof.Rows L2 Evl
/-- te, read over G, gives data of F or new -/
def EvDG (te : TE) (σ : L2.St) (G F : Hp) (d : PyData) : Prop := ∀ H1, Ex G H1 → ∀ Q : VK, (∀ v H2, Ex H1 H2 → Dt (nw F H1 H2) v d → Q v H2) → te σ H1 Q
section
variable {M : Addr → Prop} {K : PySem.W.Frag} {F0 H0 F H G : Hp} {σ : L2.St} {ta tb te : TE} {d : PyData} {D : Ends} {rest : TS}
theorem EvD.g (h : EvD te σ F d) (e : Ex F G) : EvDG te σ G F d := fun H1 e1 Q q => h H1 (e.trans e1) Q q
theorem EvDG.is {e : PyData} (h : EvDG te σ G F d) (q : d = e) : EvDG te σ G F e := q ▸ h
theorem dg_sl {tl th : TO} {ds : List PyData} {lo hi : Option Int} (eF : Ex F G) (h : EvD te σ F (.list ds)) (h1 : EvO tl σ G lo) (h2 : EvO th σ G hi) : EvDG (tSl (rSlL K) te tl th) σ G F (.list (cutD ds lo hi)) := fun H1 e _ q =>
  h H1 (eF.trans e) _ fun x H2 e2 hx => h1 H2 (e.trans e2) _ fun H3 e3 => h2 H3 ((e.trans e2).trans e3) _ fun H4 e4 => by
    have e24 := (e2.trans e3).trans e4
    obtain ⟨a, xs, rfl, g1, g2⟩ := (dt_on hx (e3.trans e4)).list_
    exact ⟨a, xs, rfl, SqL.of (nw_ex ((eF.trans e).trans e24) _ _ g1), fun p hp => q _ _ (e24.trans (Ex.new hp)) (ls_new e24 hp (g2.cut lo hi))⟩
theorem dg_cat {ds es : List PyData} (eF : Ex F G) (ha : EvDG ta σ G F (.list ds)) (hb : EvDG tb σ G F (.list es)) (hz : ds.length + es.length ≤ sizeLine) : EvDG (tOp rCat ta tb) σ G F (.list (ds ++ es)) := fun H1 e Q q =>
  ha H1 e _ fun x H2 e2 hx => hb H2 (e.trans e2) _ fun y H3 e3 hy => by
    obtain ⟨a, xs, rfl, h1, h2⟩ := (dt_on hx e3).list_
    obtain ⟨b, zs, rfl, h3, h4⟩ := (dt_up hy (eF.trans e) e2).list_
    have e13 := e2.trans e3
    exact ⟨a, b, xs, zs, rfl, rfl, nw_ex ((eF.trans e).trans e13) _ _ h1, nw_ex ((eF.trans e).trans e13) _ _ h3, by rw [h2.len, h4.len]; exact hz, fun p hp => q _ _ (e13.trans (Ex.new hp)) (ls_new e13 hp (h2.app h4))⟩
/-- xs[i], xs one's own list of known things -/
theorem dg_ixO {l : Addr} {vs : List V} {ds : List PyData} {i : Int} (eF : Ex F G) (hl : G l = some (.lst vs)) (hd : DtAll F vs ds) (ha : Ev ta σ G (.ref l)) (hi : Ev tb σ G (.int i)) (h : atI ds i = some d) : EvDG (tOp (rIxL K) ta tb) σ G F d := fun H1 e Q q =>
  ha H1 e _ fun H2 e2 => hi H2 (e.trans e2) _ fun H3 e3 => by
    obtain ⟨v, h3, h4⟩ := hd.atI h
    have e13 := e2.trans e3
    exact ⟨l, vs, i, v, rfl, rfl, SqL.of (e13 _ _ (e _ _ hl)), h3, q v H3 e13 (h4.ex ((ex_nw (eF.trans e)).trans (nw_r (exexn e13))))⟩
theorem qg_asg {i : Nat} (kn : Kn M F0 H0 F H) (eG : Ex G H) (h : EvDG te σ G F d) (k : ∀ v F1 H1, StpE M F0 H0 F H F1 H1 → Dt F1 v d → rest D (σ.set i (some v)) H1) : tSeq (tAsg te (gName i)) rest D σ H := h H eG _ fun v H1 e hv => k v _ H1 (kn.step e) hv
theorem kg_asg {i : Nat} (kn : Kn M F0 H0 F H) (eG : Ex G H) (h : EvDG te σ G F d) (k : ∀ v F1 H1, StpE M F0 H0 F H F1 H1 → Dt F1 v d → D.nx (σ.set i (some v)) H1) : tAsg te (gName i) D σ H := h H eG _ fun v H1 e hv => k v _ H1 (kn.step e) hv
theorem d_notInN {n : Nat} {ns : List Nat} (ha : EvD ta σ F (.int (n : Int))) (hb : EvD tb σ F (natsD ns)) : EvD (tOp (rIn K true) ta tb) σ F (.bool (!decide (n ∈ ns))) :=
  d_op ha hb (opS rfl fun H1 x y hx hy Q q => by
    cases hx.int_
    obtain ⟨a, ys, rfl, h2, h3⟩ := hy.list_
    cases nats_of h3
    exact ⟨a, natsV ns, rfl, .inl (SqL.of h2), rfl, nats_flat ns, by rw [inV_nats]; exact q⟩)
/-- sorted numbers -/
theorem d_sorted {ns ms : List Nat} (h : EvD te σ F (natsD ns)) (hz : ns.length < 64) (hs : ∀ ks : List Nat, ks.Perm ns → ks.Pairwise (· ≤ ·) → ks = ms) : EvD (tCB (rSorted K) (tCons te tNil)) σ F (natsD ms) := d_cb (da_cons h da_nil) fun H1 H2 e e2 xs hx Q q => by
  obtain ⟨x, rfl, h1⟩ := da1_ hx
  obtain ⟨a, ys, rfl, h2, h3⟩ := h1.list_
  cases nats_of h3
  refine ⟨a, ns.map fun (n : Nat) => (n : Int), rfl, SqL.of (by rw [nw_ex (e.trans e2) _ _ h2]; unfold natsV; rw [List.map_map]; rfl), by rw [List.length_map]; exact hz, fun js p hp1 hp2 hp => ?_⟩
  have nn : ∀ j ∈ js, ∃ k : Nat, j = (k : Int) := fun j hj => by
    obtain ⟨k, _, rfl⟩ := List.mem_map.mp (hp1.mem_iff.mp hj)
    exact ⟨k, rfl⟩
  have ej : js = (js.map Int.toNat).map fun (n : Nat) => (n : Int) := by
    rw [List.map_map]
    conv => lhs; rw [← List.map_id js]
    refine List.map_congr_left fun j hj => ?_
    obtain ⟨k, rfl⟩ := nn j hj
    rfl
  have pk : (js.map Int.toNat).Perm ns := by
    have z := hp1.map Int.toNat
    rw [List.map_map] at z
    have e0 : (Int.toNat ∘ fun (n : Nat) => (n : Int)) = id := rfl
    rw [e0, List.map_id] at z
    exact z
  have sk : (js.map Int.toNat).Pairwise (· ≤ ·) := by
    rw [List.pairwise_map]
    exact hp2.imp fun h => Int.toNat_le_toNat h
  have em := hs _ pk sk
  rw [em] at ej
  rw [ej]
  refine q _ _ (Ex.new hp) ?_
  have hv : (ms.map fun (n : Nat) => (n : Int)).map V.int = natsV ms := by rw [List.map_map]; rfl
  rw [hv]
  exact ls_new e2 hp (nats_all _).dt
end
end WB
/-! What hangs on what: lots, lists. -/
namespace WB
open PySem PySem.Spec PyProof.Rows L2 Evl
/-- the labels that step n takes -/
def tkL (m : WayM) (n : Nat) : List Lab := match m.ss[n]? with
  | some s => takenL m.rs m.z m.ss n s
  | none => []
theorem tkL_eq {m : WayM} {n : Nat} {s : WStep} (h : m.ss[n]? = some s) : tkL m n = takenL m.rs m.z m.ss n s := by unfold tkL; rw [h]
theorem tk_row {m : WayM} {n : Nat} {l : Lab} (h : l ∈ tkL m n) : n < m.ss.length ∧ l ∈ rowAt m.rs m.z m.ss n := by
  unfold tkL at h
  cases q : m.ss[n]? with
  | none => rw [q] at h; cases h
  | some s =>
    rw [q] at h
    exact ⟨(List.getElem?_eq_some_iff.mp q).1, List.mem_of_mem_drop (List.mem_of_mem_take h)⟩
theorem tk_lt {m : WayM} {n : Nat} {l : Lab} (h : l ∈ tkL m n) {g : Nat} (e : l.1 = some g) : g < n := by
  obtain ⟨h1, h2⟩ := tk_row h
  exact (row_ok m n (by omega)).lt l h2 g e
/-- one more wire taken -/
def lotS (lots : List Nat) (acc : Nat) (l : Lab) : Nat := match l.1 with
  | none => acc
  | some g => (acc ||| lots.getD g 0) ||| (1 <<< g)
def lotOf (lots : List Nat) (ls : List Lab) : Nat := ls.foldl (lotS lots) 0
/-- the lots of the steps ahead of n -/
def lotsN (m : WayM) : Nat → List Nat
  | 0 => []
  | n + 1 => lotsN m n ++ [lotOf (lotsN m n) (tkL m n)]
theorem lotsN_len (m : WayM) : ∀ n, (lotsN m n).length = n
  | 0 => rfl
  | n + 1 => by
    show (lotsN m n ++ [_]).length = _
    rw [List.length_append, lotsN_len m n]
    rfl
theorem lotsN_get (m : WayM) {i : Nat} : ∀ {n : Nat}, i < n → (lotsN m n)[i]? = some (lotOf (lotsN m i) (tkL m i))
  | 0, h => absurd h (Nat.not_lt_zero _)
  | n + 1, h => by
    show (lotsN m n ++ [_])[i]? = _
    by_cases q : i < n
    · rw [List.getElem?_append_left (by rw [lotsN_len]; exact q), lotsN_get m q]
    · have e : i = n := by omega
      subst e
      rw [List.getElem?_append_right (by rw [lotsN_len]; exact Nat.le_refl _), lotsN_len, Nat.sub_self]
      rfl
/-- the lot of a step -/
def lotA (m : WayM) (n : Nat) : Nat := lotOf (lotsN m n) (tkL m n)
/-- i is below n -/
def bel (m : WayM) (n i : Nat) : Bool := (lotA m n).testBit i
theorem lotS_bit (lots : List Nat) (acc : Nat) (l : Lab) (i : Nat) : (lotS lots acc l).testBit i = (acc.testBit i || match l.1 with | none => false | some g => ((lots.getD g 0).testBit i || decide (g = i))) := by
  unfold lotS
  cases h : l.1 with
  | none => simp
  | some g =>
    show ((acc ||| lots.getD g 0) ||| (1 <<< g)).testBit i = _
    rw [Nat.testBit_or, Nat.testBit_or, Bool.or_assoc]
    congr 2
    rw [Nat.one_shiftLeft, Nat.testBit_two_pow]
theorem lotOf_bit (lots : List Nat) (ls : List Lab) (i : Nat) : ∀ acc, (ls.foldl (lotS lots) acc).testBit i = (acc.testBit i || ls.any fun l => match l.1 with | none => false | some g => ((lots.getD g 0).testBit i || decide (g = i))) := by
  induction ls with
  | nil => intro acc; simp
  | cons l r ih =>
    intro acc
    rw [List.foldl_cons, ih, lotS_bit, List.any_cons, Bool.or_assoc]
/-- below: by one wire, or further -/
theorem bel_iff (m : WayM) (n i : Nat) : bel m n i = true ↔ ∃ l ∈ tkL m n, ∃ g, l.1 = some g ∧ (g = i ∨ bel m g i = true) := by
  unfold bel lotA lotOf
  rw [lotOf_bit, Nat.zero_testBit, Bool.false_or, List.any_eq_true]
  constructor
  · rintro ⟨l, hl, h⟩
    cases e : l.1 with
    | none => rw [e] at h; cases h
    | some g =>
      rw [e] at h
      have lt := tk_lt hl e
      have h : ((lotsN m n).getD g 0).testBit i = true ∨ g = i := by simpa using h
      refine ⟨l, hl, g, e, ?_⟩
      rcases h with h | h
      · rw [List.getD_eq_getElem?_getD, lotsN_get m lt] at h
        exact .inr h
      · exact .inl h
  · rintro ⟨l, hl, g, e, h⟩
    refine ⟨l, hl, ?_⟩
    rw [e]
    have lt := tk_lt hl e
    show ((((lotsN m n).getD g 0).testBit i) || decide (g = i)) = true
    rcases h with h | h
    · rw [decide_eq_true h, Bool.or_true]
    · rw [List.getD_eq_getElem?_getD, lotsN_get m lt]
      show ((lotA m g).testBit i || _) = true
      have h : (lotA m g).testBit i = true := h
      rw [h, Bool.true_or]
theorem bel_lt {m : WayM} : ∀ {n i : Nat}, bel m n i = true → i < n := by
  intro n
  induction n using Nat.strongRecOn with
  | _ n ih =>
    intro i h
    obtain ⟨l, hl, g, e, h⟩ := (bel_iff m n i).mp h
    have lt := tk_lt hl e
    rcases h with h | h
    · omega
    · have := ih g lt h
      omega
/-- what a step hangs on -/
def hung (m : WayM) (n : Nat) : List Nat := (List.range n).filter (bel m n)
def hungD (m : WayM) : PyData := .list ((List.range m.ss.length).map fun n => natsD (hung m n))
/-- who gave the wire with this number, ahead of step n -/
def gvBy (m : WayM) : Nat → Nat → Option Nat
  | 0, _ => none
  | n + 1, w => if freshAt m.rs m.z m.ss n ≤ w ∧ w < freshAt m.rs m.z m.ss (n + 1) then some n else gvBy m n w
theorem fresh_mono (m : WayM) : ∀ {i j : Nat}, i ≤ j → freshAt m.rs m.z m.ss i ≤ freshAt m.rs m.z m.ss j := fun {i j} h => by
  unfold freshAt
  obtain ⟨k, rfl⟩ := Nat.exists_eq_add_of_le h
  rw [List.take_add, List.map_append, List.sum_append]
  omega
theorem gvBy_at {m : WayM} {g w : Nat} (h1 : freshAt m.rs m.z m.ss g ≤ w) (h2 : w < freshAt m.rs m.z m.ss (g + 1)) : ∀ {n : Nat}, g < n → gvBy m n w = some g
  | 0, h => absurd h (Nat.not_lt_zero _)
  | n + 1, h => by
    unfold gvBy
    by_cases q : g = n
    · subst q
      rw [if_pos ⟨h1, h2⟩]
    · have := fresh_mono m (show g + 1 ≤ n by omega)
      rw [if_neg (by omega)]
      exact gvBy_at h1 h2 (by omega)
theorem gvBy_none {m : WayM} {w : Nat} (h : w < m.z.length) : ∀ n : Nat, gvBy m n w = none
  | 0 => rfl
  | n + 1 => by
    unfold gvBy
    have h0 : freshAt m.rs m.z m.ss 0 = m.z.length := by unfold freshAt; simp
    have := fresh_mono m (Nat.zero_le n)
    rw [if_neg (by omega)]
    exact gvBy_none h n
/-- a label of a row: where its number lies -/
theorem row_num (m : WayM) : ∀ n, n ≤ m.ss.length → ∀ l ∈ rowAt m.rs m.z m.ss n, (l.1 = none ∧ l.2 < m.z.length) ∨ ∃ g s, l.1 = some g ∧ g < n ∧ m.ss[g]? = some s ∧ l.2 < goL m.rs s
  | 0, _, l, h => by
    unfold rowAt at h
    obtain ⟨j, hj, rfl⟩ := List.mem_map.mp h
    exact .inl ⟨rfl, List.mem_range.mp hj⟩
  | n + 1, hn, l, h => by
    have hs : m.ss[n]? = some (m.ss[n]'(by omega)) := List.getElem?_eq_getElem (by omega)
    rw [row_s hs] at h
    unfold nextRow at h
    have up : l ∈ rowAt m.rs m.z m.ss n → _ := fun q => row_num m n (by omega) l q
    have go : l ∈ rowAt m.rs m.z m.ss n → (l.1 = none ∧ l.2 < m.z.length) ∨ ∃ g s, l.1 = some g ∧ g < n + 1 ∧ m.ss[g]? = some s ∧ l.2 < goL m.rs s := fun q => by
      rcases up q with z | ⟨g, s, a, b, c⟩
      · exact .inl z
      · exact .inr ⟨g, s, a, by omega, c⟩
    rcases List.mem_append.mp h with q | q
    · rcases List.mem_append.mp q with q | q
      · exact go (List.mem_of_mem_take q)
      · unfold givenL at q
        obtain ⟨j, hj, rfl⟩ := List.mem_map.mp q
        exact .inr ⟨n, _, rfl, Nat.lt_succ_self _, hs, List.mem_range.mp hj⟩
    · exact go (List.mem_of_mem_drop q)
theorem giver_num {m : WayM} {n : Nat} (hn : n ≤ m.ss.length) {l : Lab} (h : l ∈ rowAt m.rs m.z m.ss n) : gvBy m n (numL m.rs m.z m.ss l) = l.1 := by
  rcases row_num m n hn l h with ⟨h1, h2⟩ | ⟨g, s, h1, h2, h3, h4⟩
  · unfold numL
    rw [h1]
    exact gvBy_none h2 n
  · unfold numL
    rw [h1]
    have f := fresh_s (rs := m.rs) (z := m.z) h3
    show gvBy m n (freshAt m.rs m.z m.ss g + l.2) = some g
    exact gvBy_at (by omega) (by omega) h2
theorem given_nums_at {m : WayM} {n : Nat} {s : WStep} (hs : m.ss[n]? = some s) {w : Nat} : w ∈ (givenL m.rs n s).map (numL m.rs m.z m.ss) ↔ freshAt m.rs m.z m.ss n ≤ w ∧ w < freshAt m.rs m.z m.ss (n + 1) := by
  rw [given_num, fresh_s hs]
  constructor
  · intro h
    obtain ⟨j, hj, rfl⟩ := List.mem_map.mp h
    have := List.mem_range.mp hj
    omega
  · rintro ⟨h1, h2⟩
    exact List.mem_map.mpr ⟨w - freshAt m.rs m.z m.ss n, List.mem_range.mpr (by omega), by omega⟩
end WB
/-! What a step hangs on, as the law gathers it. -/
namespace WB
open PySem PySem.Spec PyProof.Rows L2 Evl
/-- each once, in the order in which they come -/
def eoS (acc : List Nat) (x : Nat) : List Nat := if x ∈ acc then acc else acc ++ [x]
def eo (ns : List Nat) : List Nat := ns.foldl eoS []
theorem eo_inv : ∀ (ns acc : List Nat), acc.Nodup → (ns.foldl eoS acc).Nodup ∧ ∀ x, x ∈ ns.foldl eoS acc ↔ x ∈ acc ∨ x ∈ ns
  | [], acc, h => ⟨h, fun x => by simp⟩
  | n :: ns, acc, h => by
    have h2 : (eoS acc n).Nodup := by
      unfold eoS
      by_cases q : n ∈ acc
      · rw [if_pos q]; exact h
      · rw [if_neg q]
        exact List.nodup_append.mpr ⟨h, by simp, fun a ha b hb e => q (by rw [List.mem_singleton] at hb; rw [← hb, ← e]; exact ha)⟩
    obtain ⟨h3, h4⟩ := eo_inv ns (eoS acc n) h2
    refine ⟨h3, fun x => ?_⟩
    rw [List.foldl_cons, h4]
    unfold eoS
    by_cases q : n ∈ acc
    · rw [if_pos q]
      constructor
      · rintro (h | h)
        · exact .inl h
        · exact .inr (List.mem_cons_of_mem _ h)
      · rintro (h | h)
        · exact .inl h
        · rcases List.mem_cons.mp h with z | z
          · exact .inl (z ▸ q)
          · exact .inr z
    · rw [if_neg q]
      constructor
      · rintro (h | h)
        · rcases List.mem_append.mp h with z | z
          · exact .inl z
          · exact .inr (by rw [List.mem_singleton.mp z]; exact List.mem_cons_self ..)
        · exact .inr (List.mem_cons_of_mem _ h)
      · rintro (h | h)
        · exact .inl (List.mem_append.mpr (.inl h))
        · rcases List.mem_cons.mp h with z | z
          · exact .inl (List.mem_append.mpr (.inr (by rw [z]; simp)))
          · exact .inr z
theorem eo_nd (ns : List Nat) : (eo ns).Nodup := (eo_inv ns [] List.nodup_nil).1
theorem eo_mem (ns : List Nat) (x : Nat) : x ∈ eo ns ↔ x ∈ ns := by
  have z := (eo_inv ns [] List.nodup_nil).2 x
  simpa [eo] using z
theorem eo_len : ∀ (ns acc : List Nat), (ns.foldl eoS acc).length ≤ acc.length + ns.length
  | [], acc => Nat.le_refl _
  | n :: ns, acc => by
    have h := eo_len ns (eoS acc n)
    have l : (eoS acc n).length ≤ acc.length + 1 := by
      unfold eoS
      split
      · omega
      · rw [List.length_append]; exact Nat.le_refl _
    rw [List.foldl_cons, List.length_cons]
    omega
/-- a sorted list of the same numbers, each once -/
theorem sorted_is {ms ns : List Nat} {b : Nat → Bool} {n : Nat} (h1 : ms.Perm ns) (h2 : ms.Pairwise (· ≤ ·)) (nd : ns.Nodup) (hm : ∀ x, x ∈ ns ↔ (x < n ∧ b x = true)) : ms = (List.range n).filter b := by
  have nf : ((List.range n).filter b).Nodup := List.nodup_range.filter _
  have pf : ((List.range n).filter b).Pairwise (· ≤ ·) := List.Pairwise.filter _ (List.pairwise_le_range (n := n))
  have pp : ns.Perm ((List.range n).filter b) := (List.perm_ext_iff_of_nodup nd nf).mpr fun x => by
    rw [hm, List.mem_filter, List.mem_range]
  exact List.Perm.eq_of_pairwise (fun a c _ _ h k => Nat.le_antisymm h k) h2 pf (h1.trans pp)
/-- the steps that give a wire to step n -/
def dirs (m : WayM) (n : Nat) : List Nat := (List.range n).filter fun i => (tkL m n).any fun l => decide (l.1 = some i)
theorem dirs_mem {m : WayM} {n i : Nat} : i ∈ dirs m n ↔ ∃ l ∈ tkL m n, l.1 = some i := by
  unfold dirs
  rw [List.mem_filter, List.mem_range, List.any_eq_true]
  constructor
  · rintro ⟨_, l, hl, h⟩
    exact ⟨l, hl, of_decide_eq_true h⟩
  · rintro ⟨l, hl, h⟩
    exact ⟨tk_lt hl h, l, hl, decide_eq_true h⟩
theorem hung_mem {m : WayM} {n i : Nat} : i ∈ hung m n ↔ bel m n i = true := by
  unfold hung
  rw [List.mem_filter, List.mem_range]
  exact ⟨fun h => h.2, fun h => ⟨bel_lt h, h⟩⟩
/-- what the law gathers -/
def gath (m : WayM) (n : Nat) : List Nat := dirs m n ++ ((dirs m n).map (hung m)).flatten
theorem gath_mem {m : WayM} {n i : Nat} : i ∈ gath m n ↔ (i < n ∧ bel m n i = true) := by
  unfold gath
  rw [List.mem_append, List.mem_flatten]
  constructor
  · intro h
    have hb : bel m n i = true := by
      rw [bel_iff]
      rcases h with h | ⟨l, hl, h⟩
      · obtain ⟨l, hl, e⟩ := dirs_mem.mp h
        exact ⟨l, hl, i, e, .inl rfl⟩
      · obtain ⟨g, hg, rfl⟩ := List.mem_map.mp hl
        obtain ⟨l, hl, e⟩ := dirs_mem.mp hg
        exact ⟨l, hl, g, e, .inr (hung_mem.mp h)⟩
    exact ⟨bel_lt hb, hb⟩
  · rintro ⟨_, h⟩
    obtain ⟨l, hl, g, e, h⟩ := (bel_iff m n i).mp h
    rcases h with h | h
    · exact .inl (dirs_mem.mpr ⟨l, hl, h ▸ e⟩)
    · exact .inr ⟨hung m g, List.mem_map.mpr ⟨g, dirs_mem.mpr ⟨l, hl, e⟩, rfl⟩, hung_mem.mpr h⟩
theorem num_given {m : WayM} {n i : Nat} {s : WStep} (hn : n ≤ m.ss.length) (hi : i < n) (hs : m.ss[i]? = some s) {l : Lab} (hl : l ∈ rowAt m.rs m.z m.ss n) : (numL m.rs m.z m.ss l ∈ (givenL m.rs i s).map (numL m.rs m.z m.ss)) ↔ l.1 = some i := by
  rw [given_nums_at hs]
  constructor
  · rintro ⟨h1, h2⟩
    have := gvBy_at h1 h2 hi
    rw [giver_num hn hl] at this
    exact this
  · intro h
    rcases row_num m n hn l hl with ⟨h1, _⟩ | ⟨g, s', h1, h2, h3, h4⟩
    · rw [h1] at h; cases h
    · rw [h1] at h
      cases h
      rw [hs] at h3
      cases h3
      have f := fresh_s (rs := m.rs) (z := m.z) hs
      have e : numL m.rs m.z m.ss l = freshAt m.rs m.z m.ss i + l.2 := by unfold numL; rw [h1]
      omega
/-- rows by numbers and by labels -/
theorem rows_same {m : WayM} : ∀ n, n ≤ m.ss.length → rowN m.rs (row0 m.z) (m.ss.take n) = ((rowAt m.rs m.z m.ss n).map (numL m.rs m.z m.ss), freshAt m.rs m.z m.ss n)
  | 0, _ => by
    rw [List.take_zero]
    show (List.range m.z.length, m.z.length) = _
    unfold rowAt
    rw [List.map_map]
    have e1 : (List.range m.z.length).map ((numL m.rs m.z m.ss) ∘ fun j => ((none : Option Nat), j)) = List.range m.z.length := List.map_id _
    have e2 : freshAt m.rs m.z m.ss 0 = m.z.length := by unfold freshAt; simp
    rw [e1, e2]
  | n + 1, h => by
    have hs : m.ss[n]? = some (m.ss[n]'(by omega)) := List.getElem?_eq_getElem (by omega)
    rw [take_snoc hs, rowN_snoc, rows_same n (by omega), row_s hs, fresh_s hs]
    unfold stN gvN nextRow
    refine Prod.ext ?_ rfl
    show List.take _ _ ++ _ ++ List.drop _ _ = _
    rw [List.map_append, List.map_append, given_num, List.map_take, List.map_drop]
theorem box_same {m : WayM} {n : Nat} {s : WStep} (hs : m.ss[n]? = some s) : bxN m.rs (rowN m.rs (row0 m.z) (m.ss.take n)) s = ⟨s, (tkL m n).map (numL m.rs m.z m.ss), (givenL m.rs n s).map (numL m.rs m.z m.ss)⟩ := by
  have hn := (List.getElem?_eq_some_iff.mp hs).1
  rw [rows_same n (by omega), tkL_eq hs]
  unfold bxN tkN gvN takenL
  rw [given_num, List.map_take, List.map_drop]
theorem boxes_get {rs : List Rule} : ∀ {ss : List WStep} {r : RowN} {n : Nat} {s : WStep}, ss[n]? = some s → (boxesN rs r ss)[n]? = some (bxN rs (rowN rs r (ss.take n)) s)
  | [], _, _, _, h => by simp at h
  | t :: ss, r, 0, s, h => by
    simp at h
    subst h
    rfl
  | t :: ss, r, n + 1, s, h => by
    have h' : ss[n]? = some s := by simpa using h
    exact boxes_get (r := stN rs r t) h'
end WB
/-! What hangs on what, when two steps are exchanged. -/
namespace WB
open PySem PySem.Spec PyProof.Rows L2 Evl
theorem cut5 {α : Type} (R : List α) (a b c d : Nat) (h : a + b + c + d ≤ R.length) : ∃ A T B S C, R = A ++ (T ++ (B ++ (S ++ C))) ∧ A.length = a ∧ T.length = b ∧ B.length = c ∧ S.length = d := by
  refine ⟨R.take a, (R.drop a).take b, (R.drop (a + b)).take c, (R.drop (a + b + c)).take d, R.drop (a + b + c + d), ?_, ?_, ?_, ?_, ?_⟩
  · rw [← List.drop_drop (i := d), List.take_append_drop, ← List.drop_drop (i := c), List.take_append_drop, ← List.drop_drop (i := b), List.take_append_drop, List.take_append_drop]
  · rw [List.length_take]; omega
  · rw [List.length_take, List.length_drop]; omega
  · rw [List.length_take, List.length_drop]; omega
  · rw [List.length_take, List.length_drop]; omega
theorem nr {rs : List Rule} {n : Nat} {s : WStep} {A T B : List Lab} (h1 : A.length = s.1) (h2 : T.length = srL rs s) : nextRow rs n (A ++ (T ++ B)) s = A ++ (givenL rs n s ++ B) := by
  unfold nextRow
  rw [List.take_left' h1, List.append_assoc, ← List.drop_drop, List.drop_left' h1, List.drop_left' h2]
theorem tk3 {s1 c : Nat} {A T B : List Lab} (h1 : A.length = s1) (h2 : T.length = c) : ((A ++ (T ++ B)).drop s1).take c = T := by
  rw [List.drop_left' h1, List.take_left' h2]
/-- k and k + 1 exchanged -/
def sw (k x : Nat) : Nat := if x = k then k + 1 else if x = k + 1 then k else x
theorem sw_sw (k x : Nat) : sw k (sw k x) = x := by
  unfold sw
  split <;> split <;> (try split) <;> omega
theorem sw_inj {k x y : Nat} (h : sw k x = sw k y) : x = y := by rw [← sw_sw k x, h, sw_sw]
def swL (k : Nat) (l : Lab) : Lab := (l.1.map (sw k), l.2)
theorem swL_lt {k : Nat} {ls : List Lab} (h : ∀ l ∈ ls, ∀ g, l.1 = some g → g < k) : ls.map (swL k) = ls := by
  conv => rhs; rw [← List.map_id ls]
  refine List.map_congr_left fun l hl => ?_
  obtain ⟨o, j⟩ := l
  cases o with
  | none => rfl
  | some g =>
    have := h _ hl g rfl
    show ((some (sw k g), j) : Lab) = (some g, j)
    unfold sw
    rw [if_neg (by omega), if_neg (by omega)]
theorem swL_given (rs : List Rule) (k : Nat) (s : WStep) : (givenL rs k s).map (swL k) = givenL rs (k + 1) s ∧ (givenL rs (k + 1) s).map (swL k) = givenL rs k s := by
  have e1 : sw k k = k + 1 := by unfold sw; rw [if_pos rfl]
  have e2 : sw k (k + 1) = k := by unfold sw; rw [if_neg (by omega), if_pos rfl]
  unfold givenL
  rw [List.map_map, List.map_map]
  constructor
  · refine List.map_congr_left fun j _ => ?_
    show ((some (sw k k), j) : Lab) = _
    rw [e1]
  · refine List.map_congr_left fun j _ => ?_
    show ((some (sw k (k + 1)), j) : Lab) = _
    rw [e2]
theorem given_tail {rs : List Rule} {n : Nat} {s t : WStep} (h : s.2 = t.2) : givenL rs n s = givenL rs n t ∧ srL rs s = srL rs t ∧ goL rs s = goL rs t := by
  have e1 : srL rs s = srL rs t := by unfold srL; rw [h]
  have e2 : goL rs s = goL rs t := by unfold goL; rw [h]
  exact ⟨by unfold givenL; rw [e2], e1, e2⟩
/-- two steps, the row ahead of them -/
theorem two_rows {rs : List Rule} {k : Nat} {R : List Lab} {s t : WStep} {p : WStep × WStep} (h1 : s.1 + srL rs s ≤ R.length) (h2 : t.1 + srL rs t ≤ (nextRow rs k R s).length) (lt : ∀ l ∈ R, ∀ g, l.1 = some g → g < k) (e : exch rs s t = some p) :
    (R.drop p.1.1).take (srL rs p.1) = ((nextRow rs k R s).drop t.1).take (srL rs t) ∧
    ((nextRow rs k R p.1).drop p.2.1).take (srL rs p.2) = (R.drop s.1).take (srL rs s) ∧
    nextRow rs (k + 1) (nextRow rs k R p.1) p.2 = (nextRow rs (k + 1) (nextRow rs k R s) t).map (swL k) := by
  have gl : ∀ (n : Nat) (x : WStep), (givenL rs n x).length = goL rs x := fun n x => by unfold givenL; rw [List.length_map, List.length_range]
  have fix : ∀ X : List Lab, (∀ l ∈ X, l ∈ R) → X.map (swL k) = X := fun X h => swL_lt fun l hl => lt l (h l hl)
  obtain ⟨a, b⟩ := p
  unfold exch at e
  by_cases c1 : t.1 + srL rs t ≤ s.1
  · rw [if_pos c1] at e
    injection e with e
    injection e with ea eb
    subst ea
    have hb2 : b.2 = s.2 := by rw [← eb]
    have hb1 : b.1 = s.1 + goL rs t - srL rs t := by rw [← eb]
    obtain ⟨gb, sb, _⟩ := given_tail (rs := rs) (n := k + 1) hb2
    obtain ⟨A, T, B, S, C, hR, lA, lT, lB, lS⟩ := cut5 R t.1 (srL rs t) (s.1 - (t.1 + srL rs t)) (srL rs s) (by omega)
    have r1 : nextRow rs k R s = (A ++ (T ++ B)) ++ (givenL rs k s ++ C) := by
      rw [hR, show A ++ (T ++ (B ++ (S ++ C))) = (A ++ (T ++ B)) ++ (S ++ C) by simp, nr (by simp; omega) lS]
    have r2 : nextRow rs k R t = A ++ (givenL rs k t ++ (B ++ (S ++ C))) := by rw [hR, nr lA lT]
    refine ⟨?_, ?_, ?_⟩
    · show (R.drop t.1).take (srL rs t) = _
      rw [r1, hR, tk3 lA lT, show (A ++ (T ++ B)) ++ (givenL rs k s ++ C) = A ++ (T ++ (B ++ (givenL rs k s ++ C))) by simp, tk3 lA lT]
    · show ((nextRow rs k R t).drop b.1).take (srL rs b) = _
      rw [r2, sb, show A ++ (givenL rs k t ++ (B ++ (S ++ C))) = (A ++ (givenL rs k t ++ B)) ++ (S ++ C) by simp, tk3 (by simp [gl]; omega) lS, hR, show A ++ (T ++ (B ++ (S ++ C))) = (A ++ (T ++ B)) ++ (S ++ C) by simp, tk3 (by simp; omega) lS]
    · show nextRow rs (k + 1) (nextRow rs k R t) b = _
      rw [r1, r2, show (A ++ (T ++ B)) ++ (givenL rs k s ++ C) = A ++ (T ++ (B ++ (givenL rs k s ++ C))) by simp, nr (s := t) lA lT, show A ++ (givenL rs k t ++ (B ++ (S ++ C))) = (A ++ (givenL rs k t ++ B)) ++ (S ++ C) by simp, nr (s := b) (by simp [gl]; omega) (by rw [lS, sb]), gb]
      rw [List.map_append, List.map_append, List.map_append, List.map_append, (swL_given rs k t).2, (swL_given rs k s).1, fix A fun l hl => by rw [hR]; simp [hl], fix B fun l hl => by rw [hR]; simp [hl], fix C fun l hl => by rw [hR]; simp [hl]]
      simp
  · rw [if_neg c1] at e
    by_cases c2 : s.1 + goL rs s ≤ t.1
    · rw [if_pos c2] at e
      injection e with e
      injection e with ea eb
      subst eb
      have ha2 : a.2 = t.2 := by rw [← ea]
      have ha1 : a.1 = t.1 - goL rs s + srL rs s := by rw [← ea]
      obtain ⟨ga, sa, _⟩ := given_tail (rs := rs) (n := k) ha2
      have nl : (nextRow rs k R s).length = s.1 + goL rs s + (R.length - (s.1 + srL rs s)) := by
        unfold nextRow
        rw [List.length_append, List.length_append, List.length_take, gl, List.length_drop]
        omega
      obtain ⟨A, S, B, T, C, hR, lA, lS, lB, lT⟩ := cut5 R s.1 (srL rs s) (t.1 - goL rs s - s.1) (srL rs t) (by omega)
      have r1 : nextRow rs k R s = A ++ (givenL rs k s ++ (B ++ (T ++ C))) := by rw [hR, nr lA lS]
      have r2 : nextRow rs k R a = (A ++ (S ++ B)) ++ (givenL rs k t ++ C) := by
        rw [hR, show A ++ (S ++ (B ++ (T ++ C))) = (A ++ (S ++ B)) ++ (T ++ C) by simp, nr (s := a) (by simp; omega) (by rw [lT, sa]), ga]
      refine ⟨?_, ?_, ?_⟩
      · show (R.drop a.1).take (srL rs a) = _
        rw [r1, sa, hR, show A ++ (S ++ (B ++ (T ++ C))) = (A ++ (S ++ B)) ++ (T ++ C) by simp, tk3 (by simp; omega) lT, show A ++ (givenL rs k s ++ (B ++ (T ++ C))) = (A ++ (givenL rs k s ++ B)) ++ (T ++ C) by simp, tk3 (by simp [gl]; omega) lT]
      · show ((nextRow rs k R a).drop s.1).take (srL rs s) = _
        rw [r2, show (A ++ (S ++ B)) ++ (givenL rs k t ++ C) = A ++ (S ++ (B ++ (givenL rs k t ++ C))) by simp, tk3 lA lS, hR, tk3 lA lS]
      · show nextRow rs (k + 1) (nextRow rs k R a) s = _
        rw [r1, r2, show (A ++ (S ++ B)) ++ (givenL rs k t ++ C) = A ++ (S ++ (B ++ (givenL rs k t ++ C))) by simp, nr (s := s) lA lS, show A ++ (givenL rs k s ++ (B ++ (T ++ C))) = (A ++ (givenL rs k s ++ B)) ++ (T ++ C) by simp, nr (s := t) (by simp [gl]; omega) lT]
        rw [List.map_append, List.map_append, List.map_append, List.map_append, (swL_given rs k s).1, (swL_given rs k t).2, fix A fun l hl => by rw [hR]; simp [hl], fix B fun l hl => by rw [hR]; simp [hl], fix C fun l hl => by rw [hR]; simp [hl]]
        simp
    · rw [if_neg c2] at e
      cases e
end WB
/-! Orders of steps, by exchanges: what hangs on what goes with them. -/
namespace WB
open PySem PySem.Spec PyProof.Rows L2 Evl
theorem swapAt_get {ss : List WStep} {k : Nat} {p : WStep × WStep} (h : k + 1 < ss.length) (x : Nat) : (swapAt ss k p)[x]? = if x = k then some p.1 else if x = k + 1 then some p.2 else ss[x]? := by
  have l : (ss.take k).length = k := by rw [List.length_take]; omega
  obtain ⟨a1, a2⟩ := swap_at (p := p) h
  by_cases c1 : x = k
  · rw [if_pos c1, c1, a1]
  · rw [if_neg c1]
    by_cases c2 : x = k + 1
    · rw [if_pos c2, c2, a2]
    · rw [if_neg c2]
      unfold swapAt
      by_cases c3 : x < k
      · rw [List.append_assoc, List.getElem?_append_left (by omega), List.getElem?_take, if_pos c3]
      · rw [List.getElem?_append_right (by rw [List.length_append, l]; show k + 2 ≤ x; omega), List.length_append, l, List.getElem?_drop]
        congr 1
        show k + 2 + (x - (k + 2)) = x
        omega
/-- an exchange of a Way -/
structure Exg (m : WayM) (k : Nat) (s t : WStep) (p : WStep × WStep) : Prop where
  hs : m.ss[k]? = some s
  ht : m.ss[k + 1]? = some t
  e : exch m.rs s t = some p
  h1 : s.1 + srL m.rs s ≤ (rowAt m.rs m.z m.ss k).length
  h2 : t.1 + srL m.rs t ≤ (nextRow m.rs k (rowAt m.rs m.z m.ss k) s).length
abbrev exW (m : WayM) (k : Nat) (p : WStep × WStep) : WayM := ⟨m.rs, m.z, swapAt m.ss k p⟩
theorem Exg.of {m : WayM} (b : BkOk m.rs) (c : WyC m.rs m.z m.ss) {k : Nat} {s t : WStep} {p : WStep × WStep} (h1 : m.ss[k]? = some s) (h2 : m.ss[k + 1]? = some t) (e : exch m.rs s t = some p) : Exg m k s t p := by
  have tw := TwoAt.of b c h1 h2
  have li := (List.getElem?_eq_some_iff.mp h2).1
  have r := rows_same (m := m) k (by omega)
  have r2 := rows_same (m := m) (k + 1) (by omega)
  have e1 : (rowN m.rs (row0 m.z) (m.ss.take k)).1.length = (rowAt m.rs m.z m.ss k).length := by rw [r]; exact List.length_map ..
  have e2 : (stN m.rs (rowN m.rs (row0 m.z) (m.ss.take k)) s).1.length = (nextRow m.rs k (rowAt m.rs m.z m.ss k) s).length := by
    rw [← rowN_snoc, ← take_snoc h1, r2, row_s h1]
    exact List.length_map ..
  exact ⟨h1, h2, e, by rw [← e1]; exact tw.h1, by rw [← e2]; exact tw.h2⟩
section
variable {m : WayM} {k : Nat} {s t : WStep} {p : WStep × WStep}
theorem row_early (x : Exg m k s t p) : ∀ n, n ≤ k → rowAt m.rs m.z (swapAt m.ss k p) n = rowAt m.rs m.z m.ss n
  | 0, _ => rfl
  | n + 1, h => by
    have li := (List.getElem?_eq_some_iff.mp x.ht).1
    have hs : m.ss[n]? = some (m.ss[n]'(by omega)) := List.getElem?_eq_getElem (by omega)
    have hs' : (swapAt m.ss k p)[n]? = some (m.ss[n]'(by omega)) := by rw [swapAt_get li, if_neg (by omega), if_neg (by omega)]; exact hs
    rw [row_s hs, row_s hs', row_early x n (by omega)]
theorem row_lt' (m : WayM) {n : Nat} (hn : n ≤ m.ss.length) : ∀ l ∈ rowAt m.rs m.z m.ss n, ∀ g, l.1 = some g → g < n := (row_ok m n hn).lt
theorem row_two (x : Exg m k s t p) : rowAt m.rs m.z (swapAt m.ss k p) (k + 2) = (rowAt m.rs m.z m.ss (k + 2)).map (swL k) ∧ tkL (exW m k p) k = tkL m (k + 1) ∧ tkL (exW m k p) (k + 1) = tkL m k := by
  have li := (List.getElem?_eq_some_iff.mp x.ht).1
  have g1 : (swapAt m.ss k p)[k]? = some p.1 := (swap_at li).1
  have g2 : (swapAt m.ss k p)[k + 1]? = some p.2 := (swap_at li).2
  obtain ⟨q1, q2, q3⟩ := two_rows (rs := m.rs) (k := k) (R := rowAt m.rs m.z m.ss k) x.h1 x.h2 (row_lt' m (by omega)) x.e
  refine ⟨?_, ?_, ?_⟩
  · rw [row_s g2, row_s g1, row_early x k (Nat.le_refl _), row_s x.ht, row_s x.hs]
    exact q3
  · rw [tkL_eq (m := exW m k p) g1, tkL_eq x.ht]
    unfold takenL
    show ((rowAt m.rs m.z (swapAt m.ss k p) k).drop p.1.1).take (srL m.rs p.1) = _
    rw [row_early x k (Nat.le_refl _), row_s x.hs]
    exact q1
  · rw [tkL_eq (m := exW m k p) g2, tkL_eq x.hs]
    unfold takenL
    show ((rowAt m.rs m.z (swapAt m.ss k p) (k + 1)).drop p.2.1).take (srL m.rs p.2) = _
    rw [row_s g1, row_early x k (Nat.le_refl _)]
    exact q2
theorem row_late (x : Exg m k s t p) : ∀ d, k + 2 + d ≤ m.ss.length → rowAt m.rs m.z (swapAt m.ss k p) (k + 2 + d) = (rowAt m.rs m.z m.ss (k + 2 + d)).map (swL k)
  | 0, _ => (row_two x).1
  | d + 1, h => by
    have li := (List.getElem?_eq_some_iff.mp x.ht).1
    have hs : m.ss[k + 2 + d]? = some (m.ss[k + 2 + d]'(by omega)) := List.getElem?_eq_getElem (by omega)
    have hs' : (swapAt m.ss k p)[k + 2 + d]? = some (m.ss[k + 2 + d]'(by omega)) := by rw [swapAt_get li, if_neg (by omega), if_neg (by omega)]; exact hs
    show rowAt _ _ _ (k + 2 + d + 1) = (rowAt _ _ _ (k + 2 + d + 1)).map _
    rw [row_s hs, row_s hs', row_late x d (by omega)]
    unfold nextRow
    rw [List.map_append, List.map_append, List.map_take, List.map_drop]
    congr 2
    unfold givenL
    rw [List.map_map]
    refine List.map_congr_left fun j _ => ?_
    show ((some (k + 2 + d), j) : Lab) = (some (sw k (k + 2 + d)), j)
    unfold sw
    rw [if_neg (by omega), if_neg (by omega)]
theorem tk_swap (x : Exg m k s t p) (n : Nat) : tkL (exW m k p) n = (tkL m (sw k n)).map (swL k) := by
  have li := (List.getElem?_eq_some_iff.mp x.ht).1
  have early : ∀ n, n ≤ k → (tkL m n).map (swL k) = tkL m n := fun n hn => swL_lt fun l hl g hg => by
    have := tk_lt hl hg
    omega
  have k1 : (tkL m (k + 1)).map (swL k) = tkL m (k + 1) := by
    rw [← (row_two x).2.1]
    exact swL_lt fun l hl g hg => tk_lt hl hg
  by_cases c1 : n = k
  · subst c1
    have e : sw n n = n + 1 := by unfold sw; rw [if_pos rfl]
    rw [e, k1, (row_two x).2.1]
  · by_cases c2 : n = k + 1
    · subst c2
      have e : sw k (k + 1) = k := by unfold sw; rw [if_neg (by omega), if_pos rfl]
      rw [e, early k (Nat.le_refl _), (row_two x).2.2]
    · have e : sw k n = n := by unfold sw; rw [if_neg c1, if_neg c2]
      rw [e]
      have gs : (swapAt m.ss k p)[n]? = m.ss[n]? := by rw [swapAt_get li, if_neg c1, if_neg c2]
      cases hs : m.ss[n]? with
      | none =>
        unfold tkL
        show (match (swapAt m.ss k p)[n]? with | some s => _ | none => []) = _
        rw [gs, hs]
        rfl
      | some u =>
        have hn := (List.getElem?_eq_some_iff.mp hs).1
        rw [tkL_eq (m := exW m k p) (gs.trans hs), tkL_eq hs]
        unfold takenL
        show ((rowAt m.rs m.z (swapAt m.ss k p) n).drop u.1).take (srL m.rs u) = _
        by_cases c3 : n < k
        · rw [row_early x n (by omega)]
          symm
          refine swL_lt fun l hl g hg => ?_
          have := row_lt' m (n := n) (by omega) l (List.mem_of_mem_drop (List.mem_of_mem_take hl)) g hg
          omega
        · obtain ⟨d, rfl⟩ : ∃ d, n = k + 2 + d := ⟨n - (k + 2), by omega⟩
          rw [row_late x d (by omega), List.map_take, List.map_drop]
end
/-- step x takes a wire that step y gives -/
def dir (m : WayM) (x y : Nat) : Prop := ∃ l ∈ tkL m x, l.1 = some y
theorem dir_swap {m : WayM} {k : Nat} {s t : WStep} {p : WStep × WStep} (x : Exg m k s t p) (a b : Nat) : dir (exW m k p) a b ↔ dir m (sw k a) (sw k b) := by
  unfold dir
  rw [tk_swap x a]
  constructor
  · rintro ⟨l, hl, h⟩
    obtain ⟨l0, hl0, rfl⟩ := List.mem_map.mp hl
    refine ⟨l0, hl0, ?_⟩
    obtain ⟨o, j⟩ := l0
    cases o with
    | none => cases h
    | some g =>
      have h : some (sw k g) = some b := h
      injection h with h
      show some g = some (sw k b)
      rw [← h, sw_sw]
  · rintro ⟨l, hl, h⟩
    refine ⟨swL k l, List.mem_map.mpr ⟨l, hl, rfl⟩, ?_⟩
    show l.1.map (sw k) = some b
    rw [h]
    show some (sw k (sw k b)) = _
    rw [sw_sw]
theorem bel_dir (m : WayM) (n i : Nat) : bel m n i = true ↔ ∃ g, dir m n g ∧ (g = i ∨ bel m g i = true) := by
  rw [bel_iff]
  constructor
  · rintro ⟨l, hl, g, e, h⟩
    exact ⟨g, ⟨l, hl, e⟩, h⟩
  · rintro ⟨g, ⟨l, hl, e⟩, h⟩
    exact ⟨l, hl, g, e, h⟩
theorem dir_lt {m : WayM} {x y : Nat} (h : dir m x y) : y < x := by
  obtain ⟨l, hl, e⟩ := h
  exact tk_lt hl e
/-- exchanged or not: by a wire of both -/
theorem exch_dir {m : WayM} (b : BkOk m.rs) (c : WyC m.rs m.z m.ss) {k : Nat} {s t : WStep} (h1 : m.ss[k]? = some s) (h2 : m.ss[k + 1]? = some t) : exch m.rs s t = none ↔ dir m (k + 1) k := by
  have tw := TwoAt.of b c h1 h2
  obtain ⟨w1, _⟩ := swap_wires tw.k tw.g1 tw.s1 tw.g2 tw.s2 tw.h1 tw.h2
  have li := (List.getElem?_eq_some_iff.mp h2).1
  have b1 := box_same h1
  have b2 := box_same h2
  have e1 : gvN m.rs (rowN m.rs (row0 m.z) (m.ss.take k)) s = (givenL m.rs k s).map (numL m.rs m.z m.ss) := congrArg Bx.gv b1
  have e2 : tkN m.rs (stN m.rs (rowN m.rs (row0 m.z) (m.ss.take k)) s) t = (tkL m (k + 1)).map (numL m.rs m.z m.ss) := by
    have z := congrArg Bx.tk b2
    rw [take_snoc h1, rowN_snoc] at z
    exact z
  rw [← w1, e1, e2, List.any_map, List.any_eq_true]
  constructor
  · rintro ⟨l, hl, h⟩
    exact ⟨l, hl, (num_given (m := m) (n := k + 1) (by omega) (Nat.lt_succ_self _) h1 (tk_row hl).2).mp (of_decide_eq_true h)⟩
  · rintro ⟨l, hl, h⟩
    exact ⟨l, hl, decide_eq_true ((num_given (m := m) (n := k + 1) (by omega) (Nat.lt_succ_self _) h1 (tk_row hl).2).mpr h)⟩
end WB
/-! All orders. -/
namespace WB
open PySem PySem.Spec PyProof.Rows L2 Evl
def swN (k : Nat) (a b : Nat) (told : List Nat) : List Nat := told.take k ++ [b, a] ++ told.drop (k + 2)
theorem swN_get {k a b : Nat} {told : List Nat} (h1 : told[k]? = some a) (h2 : told[k + 1]? = some b) (x : Nat) : (swN k a b told)[x]? = told[sw k x]? := by
  have li := (List.getElem?_eq_some_iff.mp h2).1
  have l : (told.take k).length = k := by rw [List.length_take]; omega
  unfold swN sw
  by_cases c1 : x = k
  · rw [if_pos c1, c1, h2, List.append_assoc, List.getElem?_append_right (by omega), l, Nat.sub_self]
    rfl
  · rw [if_neg c1]
    by_cases c2 : x = k + 1
    · rw [if_pos c2, c2, h1, List.append_assoc, List.getElem?_append_right (by omega), l, show k + 1 - k = 1 by omega]
      rfl
    · rw [if_neg c2]
      by_cases c3 : x < k
      · rw [List.append_assoc, List.getElem?_append_left (by omega), List.getElem?_take, if_pos c3]
      · rw [List.getElem?_append_right (by rw [List.length_append, l]; show k + 2 ≤ x; omega), List.length_append, l, List.getElem?_drop]
        congr 1
        show k + 2 + (x - (k + 2)) = x
        omega
/-- an order to which exchanges lead, its steps -/
structure Ord (m : WayM) (row : List WStep) (told : List Nat) : Prop where
  c : WyC m.rs m.z row
  n : row.length = m.ss.length
  pm : told.Perm (List.range m.ss.length)
  dr : ∀ a b x y, told[a]? = some x → told[b]? = some y → (dir ⟨m.rs, m.z, row⟩ a b ↔ dir m x y)
theorem Ord.refl {m : WayM} (c : WyC m.rs m.z m.ss) : Ord m m.ss (List.range m.ss.length) := ⟨c, rfl, List.Perm.refl _, fun a b x y h1 h2 => by
  have e : ∀ {i x : Nat}, (List.range m.ss.length)[i]? = some x → i = x := fun {i x} h => by
    have l := (List.getElem?_eq_some_iff.mp h).1
    rw [List.length_range] at l
    rw [List.getElem?_range l] at h
    exact Option.some.inj h
  rw [e h1, e h2]⟩
theorem Ord.len {m : WayM} {row : List WStep} {told : List Nat} (o : Ord m row told) : told.length = m.ss.length := by rw [o.pm.length_eq, List.length_range]
theorem Ord.next {m : WayM} (b : BkOk m.rs) {row : List WStep} {told : List Nat} (o : Ord m row told) {k : Nat} {s t : WStep} {p : WStep × WStep} {x y : Nat} (h1 : row[k]? = some s) (h2 : row[k + 1]? = some t) (e : exch m.rs s t = some p) (g1 : told[k]? = some x) (g2 : told[k + 1]? = some y) : Ord m (swapAt row k p) (swN k x y told) := by
  have li := (List.getElem?_eq_some_iff.mp h2).1
  have ex := Exg.of (m := ⟨m.rs, m.z, row⟩) b o.c h1 h2 e
  refine ⟨(swap_c b o.c h1 h2 e).1, by rw [swap_len li]; exact o.n, ?_, fun a c u v hu hv => ?_⟩
  · refine List.Perm.trans ?_ o.pm
    have e1 : told = told.take k ++ ([x, y] ++ told.drop (k + 2)) := by
      have z := split2 g1 g2
      exact z
    unfold swN
    rw [List.append_assoc]
    conv => rhs; rw [e1]
    exact List.Perm.append_left _ (List.Perm.append_right _ (List.Perm.swap x y []))
  · rw [swN_get g1 g2] at hu hv
    have z := dir_swap ex a c
    rw [show (⟨m.rs, m.z, swapAt row k p⟩ : WayM) = exW ⟨m.rs, m.z, row⟩ k p from rfl, z]
    exact o.dr _ _ _ _ hu hv
theorem Ord.non {m : WayM} (b : BkOk m.rs) {row : List WStep} {told : List Nat} (o : Ord m row told) {k : Nat} {s t : WStep} {x y : Nat} (h1 : row[k]? = some s) (h2 : row[k + 1]? = some t) (g1 : told[k]? = some x) (g2 : told[k + 1]? = some y) : exch m.rs s t = none ↔ dir m y x := by
  rw [exch_dir (m := ⟨m.rs, m.z, row⟩) b o.c h1 h2]
  exact o.dr _ _ _ _ g2 g1
theorem dir_len {m : WayM} {x y : Nat} (h : dir m x y) : x < m.ss.length := by
  obtain ⟨l, hl, _⟩ := h
  exact (tk_row hl).1
theorem Ord.at_ {m : WayM} {row : List WStep} {told : List Nat} (o : Ord m row told) {x : Nat} (h : x < m.ss.length) : ∃ a : Nat, told[a]? = some x := List.getElem?_of_mem (o.pm.mem_iff.mpr (List.mem_range.mpr h))
theorem Ord.nd {m : WayM} {row : List WStep} {told : List Nat} (o : Ord m row told) : told.Nodup := o.pm.nodup_iff.mpr List.nodup_range
theorem Ord.belo {m : WayM} {row : List WStep} {told : List Nat} (o : Ord m row told) : ∀ (a b x y : Nat), told[a]? = some x → told[b]? = some y → (bel ⟨m.rs, m.z, row⟩ a b = true ↔ bel m x y = true) := by
  intro a
  induction a using Nat.strongRecOn with
  | _ a ih =>
    intro b x y h1 h2
    rw [bel_dir, bel_dir]
    constructor
    · rintro ⟨g, hd, h⟩
      have lt := dir_lt hd
      have al := (List.getElem?_eq_some_iff.mp h1).1
      obtain ⟨gg, hg⟩ : ∃ gg, told[g]? = some gg := ⟨_, List.getElem?_eq_getElem (show g < told.length by omega)⟩
      refine ⟨gg, (o.dr _ _ _ _ h1 hg).mp hd, ?_⟩
      rcases h with h | h
      · subst h
        rw [hg] at h2
        exact .inl (Option.some.inj h2)
      · exact .inr ((ih g lt b gg y hg h2).mp h)
    · rintro ⟨gg, hd, h⟩
      have xl := dir_len hd
      have gl := dir_lt hd
      obtain ⟨g, hg⟩ := o.at_ (show gg < m.ss.length by omega)
      have hd' := (o.dr _ _ _ _ h1 hg).mpr hd
      have lt := dir_lt hd'
      refine ⟨g, hd', ?_⟩
      rcases h with h | h
      · subst h
        exact .inl (nodup_at o.nd hg h2)
      · exact .inr ((ih g lt b gg y hg h2).mpr h)
theorem idx_at {xs : List Nat} (nd : xs.Nodup) {i x : Nat} (h : xs[i]? = some x) : xs.idxOf x = i := idx_of nd h
/-- what hangs, in another order -/
theorem Ord.hungo {m : WayM} {row : List WStep} {told : List Nat} (o : Ord m row told) {p k : Nat} (h : told[p]? = some k) (x : Nat) : x ∈ (hung m k).map (fun i => told.idxOf i) ↔ (x < p ∧ bel ⟨m.rs, m.z, row⟩ p x = true) := by
  have kl : k < m.ss.length := List.mem_range.mp (o.pm.mem_iff.mp (List.mem_of_getElem? h))
  constructor
  · intro hx
    obtain ⟨i, hi, rfl⟩ := List.mem_map.mp hx
    have hb := hung_mem.mp hi
    have il := bel_lt hb
    obtain ⟨a, ha⟩ := o.at_ (show i < m.ss.length by omega)
    rw [idx_at o.nd ha]
    have z := (o.belo _ _ _ _ h ha).mpr hb
    exact ⟨bel_lt z, z⟩
  · rintro ⟨lt, hb⟩
    have pl := (List.getElem?_eq_some_iff.mp h).1
    obtain ⟨i, hi⟩ : ∃ i, told[x]? = some i := ⟨_, List.getElem?_eq_getElem (show x < told.length by omega)⟩
    exact List.mem_map.mpr ⟨i, hung_mem.mpr ((o.belo _ _ _ _ h hi).mp hb), idx_at o.nd hi⟩
/-- closed under what may be exchanged -/
def Cls (m : WayM) (R : List Nat → Prop) : Prop := ∀ told, R told → ∀ k x y, told[k]? = some x → told[k + 1]? = some y → ¬ dir m y x → R (swN k x y told)
theorem cls_mid {m : WayM} {R : List Nat → Prop} (c : Cls m R) {A C : List Nat} {y x : Nat} (h : R (A ++ (y :: x :: C))) (nd : ¬ dir m x y) : R (A ++ (x :: y :: C)) := by
  have z := c _ h A.length y x (by rw [List.getElem?_append_right (Nat.le_refl _), Nat.sub_self]; rfl) (by rw [List.getElem?_append_right (by omega), show A.length + 1 - A.length = 1 by omega]; rfl) nd
  unfold swN at z
  rw [List.take_left' rfl] at z
  have e : (A ++ y :: x :: C).drop (A.length + 2) = C := by
    rw [← List.drop_drop, List.drop_left' rfl]
    rfl
  rw [e] at z
  simpa using z
theorem cls_left {m : WayM} {R : List Nat → Prop} (c : Cls m R) {U : Nat → Prop} (hU : ∀ x y, U y → dir m x y → U x) {x : Nat} (hx : ¬ U x) : ∀ (L : List Nat), (∀ y ∈ L, U y) → ∀ A C, R (A ++ (L ++ x :: C)) → R (A ++ (x :: (L ++ C))) := by
  intro L
  induction L with
  | nil => intro _ A C h; exact h
  | cons y L ih =>
    intro hL A C h
    have h1 : R ((A ++ [y]) ++ (L ++ x :: C)) := by simpa using h
    have h2 := ih (fun z hz => hL z (List.mem_cons_of_mem _ hz)) (A ++ [y]) C h1
    have h3 : R (A ++ (y :: x :: (L ++ C))) := by simpa using h2
    have h4 := cls_mid c h3 fun d => hx (hU x y (hL y (List.mem_cons_self ..)) d)
    simpa using h4
theorem split_first {U : Nat → Prop} : ∀ B : List Nat, (∀ y ∈ B, U y) ∨ ∃ L x B', B = L ++ x :: B' ∧ (∀ y ∈ L, U y) ∧ ¬ U x
  | [] => .inl fun y h => nomatch h
  | y :: B => by
    by_cases q : U y
    · rcases split_first (U := U) B with h | ⟨L, x, B', e, h1, h2⟩
      · exact .inl fun z hz => (List.mem_cons.mp hz).elim (fun e => e ▸ q) (h z)
      · exact .inr ⟨y :: L, x, B', by rw [e]; rfl, fun z hz => (List.mem_cons.mp hz).elim (fun e => e ▸ q) (h1 z), h2⟩
    · exact .inr ⟨[], y, B, rfl, (fun z hz => nomatch hz), q⟩
theorem cls_over {m : WayM} {R : List Nat → Prop} (c : Cls m R) {U : Nat → Prop} (hU : ∀ x y, U y → dir m x y → U x) {i k : Nat} (hi : U i) (hk : ¬ U k) : ∀ (n : Nat) (A B C : List Nat), B.length ≤ n → R (A ++ (i :: (B ++ k :: C))) → ∃ A' B' C', R (A' ++ (k :: (B' ++ i :: C'))) := by
  intro n
  induction n with
  | zero =>
    intro A B C hn h
    have : B = [] := List.length_eq_zero_iff.mp (by omega)
    subst this
    have z := cls_mid c (A := A) (C := C) (y := i) (x := k) h fun d => hk (hU k i hi d)
    exact ⟨A, [], C, z⟩
  | succ n ih =>
    intro A B C hn h
    rcases split_first (U := U) B with hB | ⟨L, x, B', rfl, h1, h2⟩
    · have z := cls_left c hU hk (i :: B) (fun y hy => (List.mem_cons.mp hy).elim (fun e => e ▸ hi) (hB y)) A C h
      exact ⟨A, [], B ++ C, by simpa using z⟩
    · have z := cls_left c hU h2 (i :: L) (fun y hy => (List.mem_cons.mp hy).elim (fun e => e ▸ hi) (h1 y)) A (B' ++ k :: C) (by simpa using h)
      refine ih (A ++ [x]) (L ++ B') C (by simp at hn ⊢; omega) (by simpa using z)
/-- ahead in all orders: below -/
theorem ahead_iff {m : WayM} {R : List Nat → Prop} (c : Cls m R) (r0 : R (List.range m.ss.length)) (ho : ∀ told, R told → ∃ row, Ord m row told) {i k : Nat} (hi : i < m.ss.length) (hk : k < m.ss.length) : (∀ told, R told → told.idxOf i < told.idxOf k) ↔ bel m k i = true := by
  constructor
  · intro h
    have e : ∀ {x}, x < m.ss.length → (List.range m.ss.length).idxOf x = x := fun {x} hx => idx_at List.nodup_range (List.getElem?_range hx)
    have ik := h _ r0
    rw [e hi, e hk] at ik
    by_cases q : bel m k i = true
    · exact q
    · have hU : ∀ x y, (y = i ∨ bel m y i = true) → dir m x y → (x = i ∨ bel m x i = true) := fun x y hy d => .inr ((bel_dir m x i).mpr ⟨y, d, hy⟩)
      have nk : ¬ (k = i ∨ bel m k i = true) := fun z => z.elim (fun e => by omega) q
      have sp : List.range m.ss.length = (List.range m.ss.length).take i ++ (i :: (((List.range m.ss.length).drop (i + 1)).take (k - (i + 1)) ++ k :: (List.range m.ss.length).drop (k + 1))) := by
        have l1 : i < (List.range m.ss.length).length := by rw [List.length_range]; exact hi
        have l2 : k < (List.range m.ss.length).length := by rw [List.length_range]; exact hk
        have d1 : (List.range m.ss.length).drop i = i :: (List.range m.ss.length).drop (i + 1) := by rw [List.drop_eq_getElem_cons l1, List.getElem_range]
        have d2 : (List.range m.ss.length).drop k = k :: (List.range m.ss.length).drop (k + 1) := by rw [List.drop_eq_getElem_cons l2, List.getElem_range]
        have d3 : (List.range m.ss.length).drop (i + 1) = ((List.range m.ss.length).drop (i + 1)).take (k - (i + 1)) ++ (List.range m.ss.length).drop k := by
          have z := List.take_append_drop (k - (i + 1)) ((List.range m.ss.length).drop (i + 1))
          rw [List.drop_drop, show i + 1 + (k - (i + 1)) = k by omega] at z
          exact z.symm
        rw [← d2, ← d3, ← d1, List.take_append_drop]
      rw [sp] at r0
      obtain ⟨A, B, C, hr⟩ := cls_over c hU (.inl rfl) nk _ _ _ _ (Nat.le_refl _) r0
      have lt := h _ hr
      obtain ⟨row, o⟩ := ho _ hr
      have nd := o.nd
      have e1 : (A ++ (k :: (B ++ i :: C))).idxOf k = A.length := idx_at nd (by rw [List.getElem?_append_right (Nat.le_refl _), Nat.sub_self]; rfl)
      have e2 : (A ++ (k :: (B ++ i :: C))).idxOf i = A.length + 1 + B.length := idx_at nd (by
        rw [List.getElem?_append_right (by omega), show A.length + 1 + B.length - A.length = B.length + 1 by omega, List.getElem?_cons_succ, List.getElem?_append_right (Nat.le_refl _), Nat.sub_self]
        rfl)
      rw [e1, e2] at lt
      omega
  · intro hb told ht
    obtain ⟨row, o⟩ := ho told ht
    obtain ⟨a, ha⟩ := o.at_ hk
    obtain ⟨b, hb'⟩ := o.at_ hi
    rw [idx_at o.nd ha, idx_at o.nd hb']
    exact bel_lt ((o.belo _ _ _ _ ha hb').mpr hb)
/-! how many orders -/
theorem nodup_lt {l : List Nat} {N : Nat} (nd : l.Nodup) (h : ∀ x ∈ l, x < N) : l.length ≤ N := by
  have pp : l.Perm ((List.range N).filter fun x => decide (x ∈ l)) := (List.perm_ext_iff_of_nodup nd (List.nodup_range.filter _)).mpr fun x => by
    rw [List.mem_filter, List.mem_range]
    exact ⟨fun hx => ⟨h x hx, decide_eq_true hx⟩, fun hx => of_decide_eq_true hx.2⟩
  rw [pp.length_eq]
  have z := List.length_filter_le (fun x => decide (x ∈ l)) (List.range N)
  rw [List.length_range] at z
  exact z
def cod : List Nat → Nat
  | [] => 0
  | x :: r => x + 5 * cod r
theorem cod_lt : ∀ (l : List Nat), (∀ x ∈ l, x < 5) → cod l < 5 ^ l.length
  | [], _ => by decide
  | x :: r, h => by
    have h1 := h x (List.mem_cons_self ..)
    have h2 := cod_lt r fun y hy => h y (List.mem_cons_of_mem _ hy)
    show x + 5 * cod r < 5 ^ (r.length + 1)
    rw [Nat.pow_succ]
    omega
theorem cod_inj : ∀ {l k : List Nat}, l.length = k.length → (∀ x ∈ l, x < 5) → (∀ x ∈ k, x < 5) → cod l = cod k → l = k
  | [], [], _, _, _, _ => rfl
  | [], _ :: _, h, _, _, _ => by simp at h
  | _ :: _, [], h, _, _, _ => by simp at h
  | x :: r, y :: q, h, h1, h2, e => by
    have a := h1 x (List.mem_cons_self ..)
    have b := h2 y (List.mem_cons_self ..)
    have e : x + 5 * cod r = y + 5 * cod q := e
    have e1 : x = y := by omega
    have e2 : cod r = cod q := by omega
    rw [e1, cod_inj (by simpa using h) (fun z hz => h1 z (List.mem_cons_of_mem _ hz)) (fun z hz => h2 z (List.mem_cons_of_mem _ hz)) e2]
theorem orders_le {n : Nat} (hn : n ≤ 5) {L : List (List Nat)} (nd : L.Nodup) (h : ∀ l ∈ L, l.Perm (List.range n)) : L.length ≤ 3125 := by
  have lt : ∀ l ∈ L, ∀ x ∈ l, x < 5 := fun l hl x hx => by
    have := List.mem_range.mp ((h l hl).mem_iff.mp hx)
    omega
  have ll : ∀ l ∈ L, l.length = n := fun l hl => by rw [(h l hl).length_eq, List.length_range]
  have e : (L.map cod).length = L.length := List.length_map ..
  rw [← e]
  refine nodup_lt ?_ fun x hx => ?_
  · rw [List.Nodup, List.pairwise_map]
    exact List.Pairwise.imp_of_mem (fun {a b} ha hb hne hc => hne (cod_inj (by rw [ll a ha, ll b hb]) (lt a ha) (lt b hb) hc)) nd
  · obtain ⟨l, hl, rfl⟩ := List.mem_map.mp hx
    have z := cod_lt l (lt l hl)
    rw [ll l hl] at z
    have : 5 ^ n ≤ 5 ^ 5 := Nat.pow_le_pow_right (by decide) hn
    omega
end WB
/-! Lists of numbers among lists of numbers; while. -/
namespace WB
open PySem PySem.Spec PyProof.Rows L2 Evl
theorem nats_plainDs : ∀ ns : List Nat, plainDs (ns.map fun (n : Nat) => PyData.int (n : Int)) = true
  | [] => rfl
  | n :: r => by
    rw [List.map_cons]
    unfold plainDs
    rw [nats_plainDs r]
    rfl
theorem nats_plain (ns : List Nat) : plainD (natsD ns) = true := by unfold natsD plainD; exact nats_plainDs ns
theorem nats_lay : ∀ ns : List Nat, PyData.canLayAll0 (ns.map fun (n : Nat) => PyData.int (n : Int)) = true
  | [] => by simp [PyData.canLayAll0]
  | n :: r => by simp [PyData.canLayAll0, PyData.canLay0, nats_lay r]
theorem nats_depthAll : ∀ ns : List Nat, PyData.depthAll (ns.map fun (n : Nat) => PyData.int (n : Int)) = 0
  | [] => by simp [PyData.depthAll]
  | n :: r => by simp [PyData.depthAll, PyData.depth, nats_depthAll r]
theorem nats_depth (ns : List Nat) : (natsD ns).depth = 1 := by
  unfold natsD
  simp [PyData.depth, nats_depthAll ns]
theorem nats_shaped (ns : List Nat) : SeqAt.shaped (natsD ns) = true := by
  show ((natsD ns).canLay0 && decide ((natsD ns).depth ≤ 64)) = true
  rw [Bool.and_eq_true, nats_depth]
  exact ⟨by unfold natsD; simp only [PyData.canLay0]; exact nats_lay ns, by decide⟩
theorem natss_plain : ∀ L : List (List Nat), plainDs (L.map natsD) = true
  | [] => rfl
  | l :: r => by
    rw [List.map_cons]
    unfold plainDs
    rw [natss_plain r, nats_plain l]
    rfl
theorem natss_lay : ∀ L : List (List Nat), PyData.canLayAll0 (L.map natsD) = true
  | [] => by simp [PyData.canLayAll0]
  | l :: r => by
    have e : (natsD l).canLay0 = true := by unfold natsD; simp only [PyData.canLay0]; exact nats_lay l
    simp [PyData.canLayAll0, e, natss_lay r]
theorem natss_depth : ∀ L : List (List Nat), PyData.depthAll (L.map natsD) ≤ 1
  | [] => by simp [PyData.depthAll]
  | l :: r => by
    have h1 := natss_depth r
    have h2 := nats_depth l
    simp only [List.map_cons, PyData.depthAll]
    omega
theorem natss_shaped (L : List (List Nat)) : SeqAt.shaped (.list (L.map natsD)) = true := by
  have h1 := natss_depth L
  have h2 : PyData.depth (.list (L.map natsD)) ≤ 64 := by
    simp only [PyData.depth]
    omega
  show (PyData.canLay0 (.list (L.map natsD)) && decide (PyData.depth (.list (L.map natsD)) ≤ 64)) = true
  rw [Bool.and_eq_true]
  exact ⟨by simp only [PyData.canLay0]; exact natss_lay L, decide_eq_true h2⟩
theorem nats_eqvAll : ∀ a b : List Nat, PyData.eqvAll (a.map fun (n : Nat) => PyData.int (n : Int)) (b.map fun (n : Nat) => PyData.int (n : Int)) = decide (a = b)
  | [], [] => by simp [PyData.eqvAll]
  | [], _ :: _ => by simp [PyData.eqvAll]
  | _ :: _, [] => by simp [PyData.eqvAll]
  | x :: a, y :: b => by
    have ih := nats_eqvAll a b
    simp only [List.map_cons, PyData.eqvAll, PyData.eqv]
    rw [ih]
    by_cases h : x = y
    · subst h
      simp
    · have : ¬ ((x : Int) = (y : Int)) := by omega
      simp [h, this]
theorem nats_eqv (a b : List Nat) : PyData.eqv (natsD a) (natsD b) = decide (a = b) := by
  unfold natsD PyData.eqv
  exact nats_eqvAll a b
theorem natss_any (L : List (List Nat)) (l : List Nat) : (L.map natsD).any (fun z => PyData.eqv z (natsD l)) = decide (l ∈ L) := by
  induction L with
  | nil => rfl
  | cons a r ih =>
    rw [List.map_cons, List.any_cons, ih, nats_eqv]
    by_cases h : a = l
    · subst h
      simp
    · have h2 : ¬ l = a := fun e => h e.symm
      simp [h, h2]
section
variable {K : PySem.W.Frag} {F H : Hp} {σ : L2.St} {ta tb te : TE} {d1 : PyData} {D : Ends} {rest : TS}
theorem d_notInL {L : List (List Nat)} {l : List Nat} (ha : EvD ta σ F (natsD l)) (hb : EvD tb σ F (.list (L.map natsD))) : EvD (tOp (rNotInD K) ta tb) σ F (.bool (!decide (l ∈ L))) :=
  d_op ha hb (opS rfl fun H1 x y hx hy Q q => ⟨natsD l, L.map natsD, hx.dp (nats_plain l), hy.dp (by unfold plainD; exact natss_plain L), nats_shaped l, natss_shaped L, by rw [natss_any]; exact q⟩)
theorem wp_while {c : TT} {tb : TS} (W : Nat → L2.St → Hp → Prop) (m : Nat) (h0 : W m σ H) (h : ∀ m σ H, W m σ H → c σ H fun b H1 => if b = true then ∃ N : L2.St → Hp → Prop, (∀ σ' H', N σ' H' → ∃ m', m' < m ∧ W m' σ' H') ∧ tb { nx := N, rt := D.rt, ct := N, bk := rest D } σ H1 else rest D σ H1) : tSeq (tWhile c tb) rest D σ H := ⟨W, ⟨m, h0⟩, h⟩
end
end WB
namespace K10
open PySem PySem.Spec PyProof.Rows L2 Evl WB
/-! ### the text: each def by its place -/
def top (i : Nat) : Stmt := PySem.Challenge.pw_waysback_k10_whole_what_hangs_on_what.main.body.getD i (.Pass ⟨0, 0, 0, 0⟩)
abbrev s_BadBook___init__ : Stmt := inClass (top 2) 0
abbrev s_BadRules___init__ : Stmt := inClass (top 3) 0
abbrev s_BadSteps___init__ : Stmt := inClass (top 4) 0
abbrev s_BadWay___init__ : Stmt := inClass (top 5) 0
abbrev s_BadWord___init__ : Stmt := inClass (top 6) 0
abbrev s_is_word : Stmt := top 9
abbrev s_is_integer : Stmt := top 10
abbrev s_is_number : Stmt := top 11
abbrev s_is_row : Stmt := top 12
abbrev s_is_step : Stmt := top 13
abbrev s_need_word : Stmt := top 14
abbrev s_sides : Stmt := top 16
abbrev s_can_do : Stmt := top 17
abbrev s_word_behind : Stmt := top 18
abbrev s_is_rule : Stmt := top 20
abbrev s_Book___init__ : Stmt := inClass (top 21) 0
abbrev s_Book___eq__ : Stmt := inClass (top 21) 1
abbrev s_Book_rules : Stmt := inClass (top 21) 2
abbrev s_need_book : Stmt := top 22
abbrev s_Way___init__ : Stmt := inClass (top 24) 0
abbrev s_Way___eq__ : Stmt := inClass (top 24) 1
abbrev s_Way_book : Stmt := inClass (top 24) 2
abbrev s_Way_word : Stmt := inClass (top 24) 3
abbrev s_Way_steps : Stmt := inClass (top 24) 4
abbrev s_Way_end : Stmt := inClass (top 24) 5
abbrev s_Way_words : Stmt := inClass (top 24) 6
abbrev s_need_way : Stmt := top 25
abbrev s_wires_and_end : Stmt := top 27
abbrev s_wires : Stmt := top 28
abbrev s_steps_in : Stmt := top 30
abbrev s_hung_lots : Stmt := top 32
abbrev s_hangs : Stmt := top 33
abbrev s__law_b_needs : Stmt := top 35
abbrev s__law_b_orders : Stmt := top 36
abbrev s__law_b_case : Stmt := top 37
abbrev s__law_w_source : Stmt := top 38
abbrev s__law_w_goal : Stmt := top 39
abbrev s__law_w_can : Stmt := top 40
abbrev s__law_w_done : Stmt := top 41
abbrev s__law_w_end : Stmt := top 42
abbrev s__law_w_turned : Stmt := top 43
abbrev s__law_w_all : Stmt := top 44
abbrev s__law_w_swapped : Stmt := top 45
abbrev s__law_w_boxes : Stmt := top 46
abbrev s__law_w_book : Stmt := top 47
abbrev s__law_w_word : Stmt := top 48
abbrev s__law_w_way : Stmt := top 49
abbrev s__law_w_stirred : Stmt := top 50
abbrev s__law_start : Stmt := top 51
abbrev s__law_draw : Stmt := top 52
abbrev s__law_pick : Stmt := top 53
abbrev s__law_mixed : Stmt := top 54
abbrev s__law_same : Stmt := top 55
abbrev s__law_each_once : Stmt := top 56
abbrev s__law_loose : Stmt := top 57
abbrev s__law_spoilt : Stmt := top 58
abbrev s__law_is_once : Stmt := top 59
abbrev s__law_apart : Stmt := top 60
abbrev s__law_met : Stmt := top 61
abbrev s__law_ahead_always : Stmt := top 62
abbrev s__law_hangs_right : Stmt := top 63
abbrev s_law : Stmt := top 64
/-! ### what the head tells -/
def d_BadBook___init__ : He.DefD := ⟨("BadBook", some "__init__"), "__init__", "BadBook.__init__", defArgs s_BadBook___init__, defBody s_BadBook___init__, defScope s_BadBook___init__, [], []⟩
def d_BadRules___init__ : He.DefD := ⟨("BadRules", some "__init__"), "__init__", "BadRules.__init__", defArgs s_BadRules___init__, defBody s_BadRules___init__, defScope s_BadRules___init__, [], []⟩
def d_BadSteps___init__ : He.DefD := ⟨("BadSteps", some "__init__"), "__init__", "BadSteps.__init__", defArgs s_BadSteps___init__, defBody s_BadSteps___init__, defScope s_BadSteps___init__, [], []⟩
def d_BadWay___init__ : He.DefD := ⟨("BadWay", some "__init__"), "__init__", "BadWay.__init__", defArgs s_BadWay___init__, defBody s_BadWay___init__, defScope s_BadWay___init__, [], []⟩
def d_BadWord___init__ : He.DefD := ⟨("BadWord", some "__init__"), "__init__", "BadWord.__init__", defArgs s_BadWord___init__, defBody s_BadWord___init__, defScope s_BadWord___init__, [], []⟩
def d_is_word : He.DefD := ⟨("is_word", none), "is_word", "is_word", defArgs s_is_word, defBody s_is_word, defScope s_is_word, [], []⟩
def d_is_integer : He.DefD := ⟨("is_integer", none), "is_integer", "is_integer", defArgs s_is_integer, defBody s_is_integer, defScope s_is_integer, [], []⟩
def d_is_number : He.DefD := ⟨("is_number", none), "is_number", "is_number", defArgs s_is_number, defBody s_is_number, defScope s_is_number, [], []⟩
def d_is_row : He.DefD := ⟨("is_row", none), "is_row", "is_row", defArgs s_is_row, defBody s_is_row, defScope s_is_row, [], []⟩
def d_is_step : He.DefD := ⟨("is_step", none), "is_step", "is_step", defArgs s_is_step, defBody s_is_step, defScope s_is_step, [], []⟩
def d_need_word : He.DefD := ⟨("need_word", none), "need_word", "need_word", defArgs s_need_word, defBody s_need_word, defScope s_need_word, [], []⟩
def d_sides : He.DefD := ⟨("sides", none), "sides", "sides", defArgs s_sides, defBody s_sides, defScope s_sides, [], []⟩
def d_can_do : He.DefD := ⟨("can_do", none), "can_do", "can_do", defArgs s_can_do, defBody s_can_do, defScope s_can_do, [], []⟩
def d_word_behind : He.DefD := ⟨("word_behind", none), "word_behind", "word_behind", defArgs s_word_behind, defBody s_word_behind, defScope s_word_behind, [], []⟩
def d_is_rule : He.DefD := ⟨("is_rule", none), "is_rule", "is_rule", defArgs s_is_rule, defBody s_is_rule, defScope s_is_rule, [], []⟩
def d_Book___init__ : He.DefD := ⟨("Book", some "__init__"), "__init__", "Book.__init__", defArgs s_Book___init__, defBody s_Book___init__, defScope s_Book___init__, [], []⟩
def d_Book___eq__ : He.DefD := ⟨("Book", some "__eq__"), "__eq__", "Book.__eq__", defArgs s_Book___eq__, defBody s_Book___eq__, defScope s_Book___eq__, [], []⟩
def d_Book_rules : He.DefD := ⟨("Book", some "rules"), "rules", "Book.rules", defArgs s_Book_rules, defBody s_Book_rules, defScope s_Book_rules, [], []⟩
def d_need_book : He.DefD := ⟨("need_book", none), "need_book", "need_book", defArgs s_need_book, defBody s_need_book, defScope s_need_book, [], []⟩
def d_Way___init__ : He.DefD := ⟨("Way", some "__init__"), "__init__", "Way.__init__", defArgs s_Way___init__, defBody s_Way___init__, defScope s_Way___init__, [], []⟩
def d_Way___eq__ : He.DefD := ⟨("Way", some "__eq__"), "__eq__", "Way.__eq__", defArgs s_Way___eq__, defBody s_Way___eq__, defScope s_Way___eq__, [], []⟩
def d_Way_book : He.DefD := ⟨("Way", some "book"), "book", "Way.book", defArgs s_Way_book, defBody s_Way_book, defScope s_Way_book, [], []⟩
def d_Way_word : He.DefD := ⟨("Way", some "word"), "word", "Way.word", defArgs s_Way_word, defBody s_Way_word, defScope s_Way_word, [], []⟩
def d_Way_steps : He.DefD := ⟨("Way", some "steps"), "steps", "Way.steps", defArgs s_Way_steps, defBody s_Way_steps, defScope s_Way_steps, [], []⟩
def d_Way_end : He.DefD := ⟨("Way", some "end"), "end", "Way.end", defArgs s_Way_end, defBody s_Way_end, defScope s_Way_end, [], []⟩
def d_Way_words : He.DefD := ⟨("Way", some "words"), "words", "Way.words", defArgs s_Way_words, defBody s_Way_words, defScope s_Way_words, [], []⟩
def d_need_way : He.DefD := ⟨("need_way", none), "need_way", "need_way", defArgs s_need_way, defBody s_need_way, defScope s_need_way, [], []⟩
def d_wires_and_end : He.DefD := ⟨("wires_and_end", none), "wires_and_end", "wires_and_end", defArgs s_wires_and_end, defBody s_wires_and_end, defScope s_wires_and_end, [], []⟩
def d_wires : He.DefD := ⟨("wires", none), "wires", "wires", defArgs s_wires, defBody s_wires, defScope s_wires, [], []⟩
def d_steps_in : He.DefD := ⟨("steps_in", none), "steps_in", "steps_in", defArgs s_steps_in, defBody s_steps_in, defScope s_steps_in, [], []⟩
def d_hung_lots : He.DefD := ⟨("hung_lots", none), "hung_lots", "hung_lots", defArgs s_hung_lots, defBody s_hung_lots, defScope s_hung_lots, [], []⟩
def d_hangs : He.DefD := ⟨("hangs", none), "hangs", "hangs", defArgs s_hangs, defBody s_hangs, defScope s_hangs, [], []⟩
def d__law_b_needs : He.DefD := ⟨("_law_b_needs", none), "_law_b_needs", "_law_b_needs", defArgs s__law_b_needs, defBody s__law_b_needs, defScope s__law_b_needs, [], []⟩
def d__law_b_orders : He.DefD := ⟨("_law_b_orders", none), "_law_b_orders", "_law_b_orders", defArgs s__law_b_orders, defBody s__law_b_orders, defScope s__law_b_orders, [], []⟩
def d__law_b_case : He.DefD := ⟨("_law_b_case", none), "_law_b_case", "_law_b_case", defArgs s__law_b_case, defBody s__law_b_case, defScope s__law_b_case, [], []⟩
def d__law_w_source : He.DefD := ⟨("_law_w_source", none), "_law_w_source", "_law_w_source", defArgs s__law_w_source, defBody s__law_w_source, defScope s__law_w_source, [], []⟩
def d__law_w_goal : He.DefD := ⟨("_law_w_goal", none), "_law_w_goal", "_law_w_goal", defArgs s__law_w_goal, defBody s__law_w_goal, defScope s__law_w_goal, [], []⟩
def d__law_w_can : He.DefD := ⟨("_law_w_can", none), "_law_w_can", "_law_w_can", defArgs s__law_w_can, defBody s__law_w_can, defScope s__law_w_can, [], []⟩
def d__law_w_done : He.DefD := ⟨("_law_w_done", none), "_law_w_done", "_law_w_done", defArgs s__law_w_done, defBody s__law_w_done, defScope s__law_w_done, [], []⟩
def d__law_w_end : He.DefD := ⟨("_law_w_end", none), "_law_w_end", "_law_w_end", defArgs s__law_w_end, defBody s__law_w_end, defScope s__law_w_end, [], []⟩
def d__law_w_turned : He.DefD := ⟨("_law_w_turned", none), "_law_w_turned", "_law_w_turned", defArgs s__law_w_turned, defBody s__law_w_turned, defScope s__law_w_turned, [], []⟩
def d__law_w_all : He.DefD := ⟨("_law_w_all", none), "_law_w_all", "_law_w_all", defArgs s__law_w_all, defBody s__law_w_all, defScope s__law_w_all, [], []⟩
def d__law_w_swapped : He.DefD := ⟨("_law_w_swapped", none), "_law_w_swapped", "_law_w_swapped", defArgs s__law_w_swapped, defBody s__law_w_swapped, defScope s__law_w_swapped, [], []⟩
def d__law_w_boxes : He.DefD := ⟨("_law_w_boxes", none), "_law_w_boxes", "_law_w_boxes", defArgs s__law_w_boxes, defBody s__law_w_boxes, defScope s__law_w_boxes, [], []⟩
def d__law_w_book : He.DefD := ⟨("_law_w_book", none), "_law_w_book", "_law_w_book", defArgs s__law_w_book, defBody s__law_w_book, defScope s__law_w_book, [], []⟩
def d__law_w_word : He.DefD := ⟨("_law_w_word", none), "_law_w_word", "_law_w_word", defArgs s__law_w_word, defBody s__law_w_word, defScope s__law_w_word, [], []⟩
def d__law_w_way : He.DefD := ⟨("_law_w_way", none), "_law_w_way", "_law_w_way", defArgs s__law_w_way, defBody s__law_w_way, defScope s__law_w_way, [], []⟩
def d__law_w_stirred : He.DefD := ⟨("_law_w_stirred", none), "_law_w_stirred", "_law_w_stirred", defArgs s__law_w_stirred, defBody s__law_w_stirred, defScope s__law_w_stirred, [], []⟩
def d__law_start : He.DefD := ⟨("_law_start", none), "_law_start", "_law_start", defArgs s__law_start, defBody s__law_start, defScope s__law_start, [], []⟩
def d__law_draw : He.DefD := ⟨("_law_draw", none), "_law_draw", "_law_draw", defArgs s__law_draw, defBody s__law_draw, defScope s__law_draw, [], []⟩
def d__law_pick : He.DefD := ⟨("_law_pick", none), "_law_pick", "_law_pick", defArgs s__law_pick, defBody s__law_pick, defScope s__law_pick, [], []⟩
def d__law_mixed : He.DefD := ⟨("_law_mixed", none), "_law_mixed", "_law_mixed", defArgs s__law_mixed, defBody s__law_mixed, defScope s__law_mixed, [], []⟩
def d__law_same : He.DefD := ⟨("_law_same", none), "_law_same", "_law_same", defArgs s__law_same, defBody s__law_same, defScope s__law_same, [], []⟩
def d__law_each_once : He.DefD := ⟨("_law_each_once", none), "_law_each_once", "_law_each_once", defArgs s__law_each_once, defBody s__law_each_once, defScope s__law_each_once, [], []⟩
def d__law_loose : He.DefD := ⟨("_law_loose", none), "_law_loose", "_law_loose", defArgs s__law_loose, defBody s__law_loose, defScope s__law_loose, [], []⟩
def d__law_spoilt : He.DefD := ⟨("_law_spoilt", none), "_law_spoilt", "_law_spoilt", defArgs s__law_spoilt, defBody s__law_spoilt, defScope s__law_spoilt, [], []⟩
def d__law_is_once : He.DefD := ⟨("_law_is_once", none), "_law_is_once", "_law_is_once", defArgs s__law_is_once, defBody s__law_is_once, defScope s__law_is_once, [], []⟩
def d__law_apart : He.DefD := ⟨("_law_apart", none), "_law_apart", "_law_apart", defArgs s__law_apart, defBody s__law_apart, defScope s__law_apart, [], []⟩
def d__law_met : He.DefD := ⟨("_law_met", none), "_law_met", "_law_met", defArgs s__law_met, defBody s__law_met, defScope s__law_met, [], []⟩
def d__law_ahead_always : He.DefD := ⟨("_law_ahead_always", none), "_law_ahead_always", "_law_ahead_always", defArgs s__law_ahead_always, defBody s__law_ahead_always, defScope s__law_ahead_always, [], []⟩
def d__law_hangs_right : He.DefD := ⟨("_law_hangs_right", none), "_law_hangs_right", "_law_hangs_right", defArgs s__law_hangs_right, defBody s__law_hangs_right, defScope s__law_hangs_right, [], []⟩
def d_law : He.DefD := ⟨("law", none), "law", "law", defArgs s_law, defBody s_law, defScope s_law, [], []⟩
def fn : List He.DefD := [d_BadBook___init__, d_BadRules___init__, d_BadSteps___init__, d_BadWay___init__, d_BadWord___init__, d_is_word, d_is_integer, d_is_number, d_is_row, d_is_step, d_need_word, d_sides, d_can_do, d_word_behind, d_is_rule, d_Book___init__, d_Book___eq__, d_Book_rules, d_need_book, d_Way___init__, d_Way___eq__, d_Way_book, d_Way_word, d_Way_steps, d_Way_end, d_Way_words, d_need_way, d_wires_and_end, d_wires, d_steps_in, d_hung_lots, d_hangs, d__law_b_needs, d__law_b_orders, d__law_b_case, d__law_w_source, d__law_w_goal, d__law_w_can, d__law_w_done, d__law_w_end, d__law_w_turned, d__law_w_all, d__law_w_swapped, d__law_w_boxes, d__law_w_book, d__law_w_word, d__law_w_way, d__law_w_stirred, d__law_start, d__law_draw, d__law_pick, d__law_mixed, d__law_same, d__law_each_once, d__law_loose, d__law_spoilt, d__law_is_once, d__law_apart, d__law_met, d__law_ahead_always, d__law_hangs_right, d_law]
def fa : List He.Fa := [.glo "is_word", .glo "is_integer", .glo "is_number", .glo "is_row", .glo "is_step", .glo "need_word", .glo "sides", .glo "can_do", .glo "word_behind", .glo "is_rule", .glo "need_book", .glo "need_way", .glo "wires_and_end", .glo "wires", .glo "steps_in", .glo "hung_lots", .glo "hangs", .glo "_law_b_needs", .glo "_law_b_orders", .glo "_law_b_case", .glo "_law_w_source", .glo "_law_w_goal", .glo "_law_w_can", .glo "_law_w_done", .glo "_law_w_end", .glo "_law_w_turned", .glo "_law_w_all", .glo "_law_w_swapped", .glo "_law_w_boxes", .glo "_law_w_book", .glo "_law_w_word", .glo "_law_w_way", .glo "_law_w_stirred", .glo "_law_start", .glo "_law_draw", .glo "_law_pick", .glo "_law_mixed", .glo "_law_same", .glo "_law_each_once", .glo "_law_loose", .glo "_law_spoilt", .glo "_law_is_once", .glo "_law_apart", .glo "_law_met", .glo "_law_ahead_always", .glo "_law_hangs_right", .glo "law", .glo "WayError", .keep "WayError", .glo "BadBook", .keep "BadBook", .glo "BadRules", .keep "BadRules", .glo "BadSteps", .keep "BadSteps", .glo "BadWay", .keep "BadWay", .glo "BadWord", .keep "BadWord", .glo "Book", .keep "Book", .glo "Way", .keep "Way", .free "len", .free "isinstance", .free "range", .free "list", .free "tuple", .free "str", .free "int", .free "bool", .free "dict", .free "enumerate", .free "zip", .free "all", .free "any", .free "sorted", .free "min", .free "ValueError", .cls "Book", .noat "Book" "_rules", .mkr "Book", .meth "Book" "__eq__", .meth "Book" "rules", .cls "Way", .noat "Way" "_book", .noat "Way" "_word", .noat "Way" "_words", .noat "Way" "_steps", .mkr "Way", .meth "Way" "__eq__", .meth "Way" "book", .meth "Way" "word", .meth "Way" "steps", .meth "Way" "end", .meth "Way" "words", .glo "TURNS"]
def tf : List He.Defn := [("law", none)]
def exs : List (PySem.W.Frag → Bool) := [errB "BadBook" "thing",
  errB "BadRules" "index",
  errB "BadSteps" "index",
  errB "BadWay" "thing",
  errB "BadWord" "thing",
  exmB "BadBook" "BadWay" false,
  exmB "BadRules" "BadWay" false,
  exmB "BadSteps" "BadWay" false,
  exmB "BadWay" "BadWay" true,
  exmB "BadWord" "BadWay" false,
  insB "Book",
  kitOB "Book" "Book" true,
  kitOB "Book" "Way" false,
  kitTO "NoneType" "Book",
  kitTO "bool" "Book",
  kitTO "int" "Book",
  kitTO "str" "Book",
  kitTO "list" "Book",
  kitTO "tuple" "Book",
  kitTO "dict" "Book",
  kitOT "Book" "NoneType",
  kitOT "Book" "bool",
  kitOT "Book" "int",
  kitOT "Book" "str",
  kitOT "Book" "list",
  kitOT "Book" "tuple",
  kitOT "Book" "dict",
  insB "Way",
  kitOB "Way" "Book" false,
  kitOB "Way" "Way" true,
  kitTO "NoneType" "Way",
  kitTO "bool" "Way",
  kitTO "int" "Way",
  kitTO "str" "Way",
  kitTO "list" "Way",
  kitTO "tuple" "Way",
  kitTO "dict" "Way",
  kitOT "Way" "NoneType",
  kitOT "Way" "bool",
  kitOT "Way" "int",
  kitOT "Way" "str",
  kitOT "Way" "list",
  kitOT "Way" "tuple",
  kitOT "Way" "dict",
  (fun K => He.tupB K "TURNS" [.str "back", .str "on"])]
def ex (K : PySem.W.Frag) : Bool := exs.all fun f => f K
/-- what the head tells, as it is used -/
structure Env (P : Program) (w : World) (K : PySem.W.Frag) (mg : Str → Option Value) (base : Heap) : Prop where
  t : ∃ h : Heap, K.In h ∧ h.Ns mainGlobals mg
  s : He.SaysD fa fn K
  e : ex K = true
  tb : ∀ p ∈ tf, LamX.TabB base mg (He.cT K p).1 (He.cT K p).2
section
variable {P : Program} {w : World} {K : PySem.W.Frag} {mg : Str → Option Value} {base : Heap}
theorem Env.ex_ (S : Env P w K mg base) (i : Nat) {f : PySem.W.Frag → Bool} (h : exs[i]? = some f) : f K = true := List.all_eq_true.mp S.e f (List.mem_of_getElem? h)
theorem Env.glo_ (S : Env P w K mg base) {x : Str} (i : Nat) (h : fa[i]? = some (.glo x)) : mg x = some (.ref (He.ga K x)) := by
  obtain ⟨h0, X, G⟩ := S.t
  exact He.glo_ok X G (S.s.fact i h)
theorem Env.free_ (S : Env P w K mg base) {x : Str} (i : Nat) (h : fa[i]? = some (.free x)) : mg x = none := by
  obtain ⟨h0, X, G⟩ := S.t
  exact He.free_ok X G (S.s.fact i h)
abbrev code_law (K : PySem.W.Frag) : Addr := He.codeOf K ("law", none)
abbrev tab_law (K : PySem.W.Frag) : Addr := He.tabOf K (code_law K)
theorem Env.tab_law (S : Env P w K mg base) : LamX.TabB base mg (code_law K) (tab_law K) := S.tb ("law", none) (by simp [tf])
theorem Env.glo_is_word (S : Env P w K mg base) : mg "is_word" = some (.ref (He.ga K "is_word")) := S.glo_ 0 rfl
theorem Env.glo_is_integer (S : Env P w K mg base) : mg "is_integer" = some (.ref (He.ga K "is_integer")) := S.glo_ 1 rfl
theorem Env.glo_is_number (S : Env P w K mg base) : mg "is_number" = some (.ref (He.ga K "is_number")) := S.glo_ 2 rfl
theorem Env.glo_is_row (S : Env P w K mg base) : mg "is_row" = some (.ref (He.ga K "is_row")) := S.glo_ 3 rfl
theorem Env.glo_is_step (S : Env P w K mg base) : mg "is_step" = some (.ref (He.ga K "is_step")) := S.glo_ 4 rfl
theorem Env.glo_need_word (S : Env P w K mg base) : mg "need_word" = some (.ref (He.ga K "need_word")) := S.glo_ 5 rfl
theorem Env.glo_sides (S : Env P w K mg base) : mg "sides" = some (.ref (He.ga K "sides")) := S.glo_ 6 rfl
theorem Env.glo_can_do (S : Env P w K mg base) : mg "can_do" = some (.ref (He.ga K "can_do")) := S.glo_ 7 rfl
theorem Env.glo_word_behind (S : Env P w K mg base) : mg "word_behind" = some (.ref (He.ga K "word_behind")) := S.glo_ 8 rfl
theorem Env.glo_is_rule (S : Env P w K mg base) : mg "is_rule" = some (.ref (He.ga K "is_rule")) := S.glo_ 9 rfl
theorem Env.glo_need_book (S : Env P w K mg base) : mg "need_book" = some (.ref (He.ga K "need_book")) := S.glo_ 10 rfl
theorem Env.glo_need_way (S : Env P w K mg base) : mg "need_way" = some (.ref (He.ga K "need_way")) := S.glo_ 11 rfl
theorem Env.glo_wires_and_end (S : Env P w K mg base) : mg "wires_and_end" = some (.ref (He.ga K "wires_and_end")) := S.glo_ 12 rfl
theorem Env.glo_wires (S : Env P w K mg base) : mg "wires" = some (.ref (He.ga K "wires")) := S.glo_ 13 rfl
theorem Env.glo_steps_in (S : Env P w K mg base) : mg "steps_in" = some (.ref (He.ga K "steps_in")) := S.glo_ 14 rfl
theorem Env.glo_hung_lots (S : Env P w K mg base) : mg "hung_lots" = some (.ref (He.ga K "hung_lots")) := S.glo_ 15 rfl
theorem Env.glo_hangs (S : Env P w K mg base) : mg "hangs" = some (.ref (He.ga K "hangs")) := S.glo_ 16 rfl
theorem Env.glo__law_b_needs (S : Env P w K mg base) : mg "_law_b_needs" = some (.ref (He.ga K "_law_b_needs")) := S.glo_ 17 rfl
theorem Env.glo__law_b_orders (S : Env P w K mg base) : mg "_law_b_orders" = some (.ref (He.ga K "_law_b_orders")) := S.glo_ 18 rfl
theorem Env.glo__law_b_case (S : Env P w K mg base) : mg "_law_b_case" = some (.ref (He.ga K "_law_b_case")) := S.glo_ 19 rfl
theorem Env.glo__law_w_source (S : Env P w K mg base) : mg "_law_w_source" = some (.ref (He.ga K "_law_w_source")) := S.glo_ 20 rfl
theorem Env.glo__law_w_goal (S : Env P w K mg base) : mg "_law_w_goal" = some (.ref (He.ga K "_law_w_goal")) := S.glo_ 21 rfl
theorem Env.glo__law_w_can (S : Env P w K mg base) : mg "_law_w_can" = some (.ref (He.ga K "_law_w_can")) := S.glo_ 22 rfl
theorem Env.glo__law_w_done (S : Env P w K mg base) : mg "_law_w_done" = some (.ref (He.ga K "_law_w_done")) := S.glo_ 23 rfl
theorem Env.glo__law_w_end (S : Env P w K mg base) : mg "_law_w_end" = some (.ref (He.ga K "_law_w_end")) := S.glo_ 24 rfl
theorem Env.glo__law_w_turned (S : Env P w K mg base) : mg "_law_w_turned" = some (.ref (He.ga K "_law_w_turned")) := S.glo_ 25 rfl
theorem Env.glo__law_w_all (S : Env P w K mg base) : mg "_law_w_all" = some (.ref (He.ga K "_law_w_all")) := S.glo_ 26 rfl
theorem Env.glo__law_w_swapped (S : Env P w K mg base) : mg "_law_w_swapped" = some (.ref (He.ga K "_law_w_swapped")) := S.glo_ 27 rfl
theorem Env.glo__law_w_boxes (S : Env P w K mg base) : mg "_law_w_boxes" = some (.ref (He.ga K "_law_w_boxes")) := S.glo_ 28 rfl
theorem Env.glo__law_w_book (S : Env P w K mg base) : mg "_law_w_book" = some (.ref (He.ga K "_law_w_book")) := S.glo_ 29 rfl
theorem Env.glo__law_w_word (S : Env P w K mg base) : mg "_law_w_word" = some (.ref (He.ga K "_law_w_word")) := S.glo_ 30 rfl
theorem Env.glo__law_w_way (S : Env P w K mg base) : mg "_law_w_way" = some (.ref (He.ga K "_law_w_way")) := S.glo_ 31 rfl
theorem Env.glo__law_w_stirred (S : Env P w K mg base) : mg "_law_w_stirred" = some (.ref (He.ga K "_law_w_stirred")) := S.glo_ 32 rfl
theorem Env.glo__law_start (S : Env P w K mg base) : mg "_law_start" = some (.ref (He.ga K "_law_start")) := S.glo_ 33 rfl
theorem Env.glo__law_draw (S : Env P w K mg base) : mg "_law_draw" = some (.ref (He.ga K "_law_draw")) := S.glo_ 34 rfl
theorem Env.glo__law_pick (S : Env P w K mg base) : mg "_law_pick" = some (.ref (He.ga K "_law_pick")) := S.glo_ 35 rfl
theorem Env.glo__law_mixed (S : Env P w K mg base) : mg "_law_mixed" = some (.ref (He.ga K "_law_mixed")) := S.glo_ 36 rfl
theorem Env.glo__law_same (S : Env P w K mg base) : mg "_law_same" = some (.ref (He.ga K "_law_same")) := S.glo_ 37 rfl
theorem Env.glo__law_each_once (S : Env P w K mg base) : mg "_law_each_once" = some (.ref (He.ga K "_law_each_once")) := S.glo_ 38 rfl
theorem Env.glo__law_loose (S : Env P w K mg base) : mg "_law_loose" = some (.ref (He.ga K "_law_loose")) := S.glo_ 39 rfl
theorem Env.glo__law_spoilt (S : Env P w K mg base) : mg "_law_spoilt" = some (.ref (He.ga K "_law_spoilt")) := S.glo_ 40 rfl
theorem Env.glo__law_is_once (S : Env P w K mg base) : mg "_law_is_once" = some (.ref (He.ga K "_law_is_once")) := S.glo_ 41 rfl
theorem Env.glo__law_apart (S : Env P w K mg base) : mg "_law_apart" = some (.ref (He.ga K "_law_apart")) := S.glo_ 42 rfl
theorem Env.glo__law_met (S : Env P w K mg base) : mg "_law_met" = some (.ref (He.ga K "_law_met")) := S.glo_ 43 rfl
theorem Env.glo__law_ahead_always (S : Env P w K mg base) : mg "_law_ahead_always" = some (.ref (He.ga K "_law_ahead_always")) := S.glo_ 44 rfl
theorem Env.glo__law_hangs_right (S : Env P w K mg base) : mg "_law_hangs_right" = some (.ref (He.ga K "_law_hangs_right")) := S.glo_ 45 rfl
theorem Env.glo_law (S : Env P w K mg base) : mg "law" = some (.ref (He.ga K "law")) := S.glo_ 46 rfl
theorem Env.glo_WayError (S : Env P w K mg base) : mg "WayError" = some (.ref (He.ga K "WayError")) := S.glo_ 47 rfl
theorem Env.keep_WayError (S : Env P w K mg base) : PySem.W.keepIn K (.ref (He.ga K "WayError")) = true := He.keep_ok (S.s.fact 48 rfl)
theorem Env.glo_BadBook (S : Env P w K mg base) : mg "BadBook" = some (.ref (He.ga K "BadBook")) := S.glo_ 49 rfl
theorem Env.keep_BadBook (S : Env P w K mg base) : PySem.W.keepIn K (.ref (He.ga K "BadBook")) = true := He.keep_ok (S.s.fact 50 rfl)
theorem Env.glo_BadRules (S : Env P w K mg base) : mg "BadRules" = some (.ref (He.ga K "BadRules")) := S.glo_ 51 rfl
theorem Env.keep_BadRules (S : Env P w K mg base) : PySem.W.keepIn K (.ref (He.ga K "BadRules")) = true := He.keep_ok (S.s.fact 52 rfl)
theorem Env.glo_BadSteps (S : Env P w K mg base) : mg "BadSteps" = some (.ref (He.ga K "BadSteps")) := S.glo_ 53 rfl
theorem Env.keep_BadSteps (S : Env P w K mg base) : PySem.W.keepIn K (.ref (He.ga K "BadSteps")) = true := He.keep_ok (S.s.fact 54 rfl)
theorem Env.glo_BadWay (S : Env P w K mg base) : mg "BadWay" = some (.ref (He.ga K "BadWay")) := S.glo_ 55 rfl
theorem Env.keep_BadWay (S : Env P w K mg base) : PySem.W.keepIn K (.ref (He.ga K "BadWay")) = true := He.keep_ok (S.s.fact 56 rfl)
theorem Env.glo_BadWord (S : Env P w K mg base) : mg "BadWord" = some (.ref (He.ga K "BadWord")) := S.glo_ 57 rfl
theorem Env.keep_BadWord (S : Env P w K mg base) : PySem.W.keepIn K (.ref (He.ga K "BadWord")) = true := He.keep_ok (S.s.fact 58 rfl)
theorem Env.glo_Book (S : Env P w K mg base) : mg "Book" = some (.ref (He.ga K "Book")) := S.glo_ 59 rfl
theorem Env.keep_Book (S : Env P w K mg base) : PySem.W.keepIn K (.ref (He.ga K "Book")) = true := He.keep_ok (S.s.fact 60 rfl)
theorem Env.glo_Way (S : Env P w K mg base) : mg "Way" = some (.ref (He.ga K "Way")) := S.glo_ 61 rfl
theorem Env.keep_Way (S : Env P w K mg base) : PySem.W.keepIn K (.ref (He.ga K "Way")) = true := He.keep_ok (S.s.fact 62 rfl)
theorem Env.free_len (S : Env P w K mg base) : mg "len" = none := S.free_ 63 rfl
theorem Env.free_isinstance (S : Env P w K mg base) : mg "isinstance" = none := S.free_ 64 rfl
theorem Env.free_range (S : Env P w K mg base) : mg "range" = none := S.free_ 65 rfl
theorem Env.free_list (S : Env P w K mg base) : mg "list" = none := S.free_ 66 rfl
theorem Env.free_tuple (S : Env P w K mg base) : mg "tuple" = none := S.free_ 67 rfl
theorem Env.free_str (S : Env P w K mg base) : mg "str" = none := S.free_ 68 rfl
theorem Env.free_int (S : Env P w K mg base) : mg "int" = none := S.free_ 69 rfl
theorem Env.free_bool (S : Env P w K mg base) : mg "bool" = none := S.free_ 70 rfl
theorem Env.free_dict (S : Env P w K mg base) : mg "dict" = none := S.free_ 71 rfl
theorem Env.free_enumerate (S : Env P w K mg base) : mg "enumerate" = none := S.free_ 72 rfl
theorem Env.free_zip (S : Env P w K mg base) : mg "zip" = none := S.free_ 73 rfl
theorem Env.free_all (S : Env P w K mg base) : mg "all" = none := S.free_ 74 rfl
theorem Env.free_any (S : Env P w K mg base) : mg "any" = none := S.free_ 75 rfl
theorem Env.free_sorted (S : Env P w K mg base) : mg "sorted" = none := S.free_ 76 rfl
theorem Env.free_min (S : Env P w K mg base) : mg "min" = none := S.free_ 77 rfl
theorem Env.free_ValueError (S : Env P w K mg base) : mg "ValueError" = none := S.free_ 78 rfl
theorem Env.cls_Book (S : Env P w K mg base) : Cls K (He.ga K "Book") := He.cls_ok (S.s.fact 79 rfl)
theorem Env.noat_Book__rules (S : Env P w K mg base) : NoAttr K (He.ga K "Book") "_rules" := He.noat_ok (S.s.fact 80 rfl)
theorem Env.mkr_Book (S : Env P w K mg base) : Mk K (He.ga K "Book") (He.ma K (He.ga K "Book") "__init__") := He.mkr_ok (S.s.fact 81 rfl)
theorem Env.meth_Book___eq__ (S : Env P w K mg base) : Meth K (He.ga K "Book") "__eq__" (He.ma K (He.ga K "Book") "__eq__") := He.meth_ok (S.s.fact 82 rfl)
theorem Env.meth_Book_rules (S : Env P w K mg base) : Meth K (He.ga K "Book") "rules" (He.ma K (He.ga K "Book") "rules") := He.meth_ok (S.s.fact 83 rfl)
theorem Env.cls_Way (S : Env P w K mg base) : Cls K (He.ga K "Way") := He.cls_ok (S.s.fact 84 rfl)
theorem Env.noat_Way__book (S : Env P w K mg base) : NoAttr K (He.ga K "Way") "_book" := He.noat_ok (S.s.fact 85 rfl)
theorem Env.noat_Way__word (S : Env P w K mg base) : NoAttr K (He.ga K "Way") "_word" := He.noat_ok (S.s.fact 86 rfl)
theorem Env.noat_Way__words (S : Env P w K mg base) : NoAttr K (He.ga K "Way") "_words" := He.noat_ok (S.s.fact 87 rfl)
theorem Env.noat_Way__steps (S : Env P w K mg base) : NoAttr K (He.ga K "Way") "_steps" := He.noat_ok (S.s.fact 88 rfl)
theorem Env.mkr_Way (S : Env P w K mg base) : Mk K (He.ga K "Way") (He.ma K (He.ga K "Way") "__init__") := He.mkr_ok (S.s.fact 89 rfl)
theorem Env.meth_Way___eq__ (S : Env P w K mg base) : Meth K (He.ga K "Way") "__eq__" (He.ma K (He.ga K "Way") "__eq__") := He.meth_ok (S.s.fact 90 rfl)
theorem Env.meth_Way_book (S : Env P w K mg base) : Meth K (He.ga K "Way") "book" (He.ma K (He.ga K "Way") "book") := He.meth_ok (S.s.fact 91 rfl)
theorem Env.meth_Way_word (S : Env P w K mg base) : Meth K (He.ga K "Way") "word" (He.ma K (He.ga K "Way") "word") := He.meth_ok (S.s.fact 92 rfl)
theorem Env.meth_Way_steps (S : Env P w K mg base) : Meth K (He.ga K "Way") "steps" (He.ma K (He.ga K "Way") "steps") := He.meth_ok (S.s.fact 93 rfl)
theorem Env.meth_Way_end (S : Env P w K mg base) : Meth K (He.ga K "Way") "end" (He.ma K (He.ga K "Way") "end") := He.meth_ok (S.s.fact 94 rfl)
theorem Env.meth_Way_words (S : Env P w K mg base) : Meth K (He.ga K "Way") "words" (He.ma K (He.ga K "Way") "words") := He.meth_ok (S.s.fact 95 rfl)
theorem Env.glo_TURNS (S : Env P w K mg base) : mg "TURNS" = some (.ref (He.ga K "TURNS")) := S.glo_ 96 rfl
theorem Env.fun_BadBook___init__ (S : Env P w K mg base) : ∃ fd, FunD K d_BadBook___init__.name d_BadBook___init__.qual d_BadBook___init__.params d_BadBook___init__.body d_BadBook___init__.scope [] [] (He.fAd K d_BadBook___init__.at_) fd := S.s.def_ 0 (d := d_BadBook___init__) rfl
theorem Env.fun_BadRules___init__ (S : Env P w K mg base) : ∃ fd, FunD K d_BadRules___init__.name d_BadRules___init__.qual d_BadRules___init__.params d_BadRules___init__.body d_BadRules___init__.scope [] [] (He.fAd K d_BadRules___init__.at_) fd := S.s.def_ 1 (d := d_BadRules___init__) rfl
theorem Env.fun_BadSteps___init__ (S : Env P w K mg base) : ∃ fd, FunD K d_BadSteps___init__.name d_BadSteps___init__.qual d_BadSteps___init__.params d_BadSteps___init__.body d_BadSteps___init__.scope [] [] (He.fAd K d_BadSteps___init__.at_) fd := S.s.def_ 2 (d := d_BadSteps___init__) rfl
theorem Env.fun_BadWay___init__ (S : Env P w K mg base) : ∃ fd, FunD K d_BadWay___init__.name d_BadWay___init__.qual d_BadWay___init__.params d_BadWay___init__.body d_BadWay___init__.scope [] [] (He.fAd K d_BadWay___init__.at_) fd := S.s.def_ 3 (d := d_BadWay___init__) rfl
theorem Env.fun_BadWord___init__ (S : Env P w K mg base) : ∃ fd, FunD K d_BadWord___init__.name d_BadWord___init__.qual d_BadWord___init__.params d_BadWord___init__.body d_BadWord___init__.scope [] [] (He.fAd K d_BadWord___init__.at_) fd := S.s.def_ 4 (d := d_BadWord___init__) rfl
theorem Env.fun_is_word (S : Env P w K mg base) : ∃ fd, FunD K d_is_word.name d_is_word.qual d_is_word.params d_is_word.body d_is_word.scope [] [] (He.fAd K d_is_word.at_) fd := S.s.def_ 5 (d := d_is_word) rfl
theorem Env.fun_is_integer (S : Env P w K mg base) : ∃ fd, FunD K d_is_integer.name d_is_integer.qual d_is_integer.params d_is_integer.body d_is_integer.scope [] [] (He.fAd K d_is_integer.at_) fd := S.s.def_ 6 (d := d_is_integer) rfl
theorem Env.fun_is_number (S : Env P w K mg base) : ∃ fd, FunD K d_is_number.name d_is_number.qual d_is_number.params d_is_number.body d_is_number.scope [] [] (He.fAd K d_is_number.at_) fd := S.s.def_ 7 (d := d_is_number) rfl
theorem Env.fun_is_row (S : Env P w K mg base) : ∃ fd, FunD K d_is_row.name d_is_row.qual d_is_row.params d_is_row.body d_is_row.scope [] [] (He.fAd K d_is_row.at_) fd := S.s.def_ 8 (d := d_is_row) rfl
theorem Env.fun_is_step (S : Env P w K mg base) : ∃ fd, FunD K d_is_step.name d_is_step.qual d_is_step.params d_is_step.body d_is_step.scope [] [] (He.fAd K d_is_step.at_) fd := S.s.def_ 9 (d := d_is_step) rfl
theorem Env.fun_need_word (S : Env P w K mg base) : ∃ fd, FunD K d_need_word.name d_need_word.qual d_need_word.params d_need_word.body d_need_word.scope [] [] (He.fAd K d_need_word.at_) fd := S.s.def_ 10 (d := d_need_word) rfl
theorem Env.fun_sides (S : Env P w K mg base) : ∃ fd, FunD K d_sides.name d_sides.qual d_sides.params d_sides.body d_sides.scope [] [] (He.fAd K d_sides.at_) fd := S.s.def_ 11 (d := d_sides) rfl
theorem Env.fun_can_do (S : Env P w K mg base) : ∃ fd, FunD K d_can_do.name d_can_do.qual d_can_do.params d_can_do.body d_can_do.scope [] [] (He.fAd K d_can_do.at_) fd := S.s.def_ 12 (d := d_can_do) rfl
theorem Env.fun_word_behind (S : Env P w K mg base) : ∃ fd, FunD K d_word_behind.name d_word_behind.qual d_word_behind.params d_word_behind.body d_word_behind.scope [] [] (He.fAd K d_word_behind.at_) fd := S.s.def_ 13 (d := d_word_behind) rfl
theorem Env.fun_is_rule (S : Env P w K mg base) : ∃ fd, FunD K d_is_rule.name d_is_rule.qual d_is_rule.params d_is_rule.body d_is_rule.scope [] [] (He.fAd K d_is_rule.at_) fd := S.s.def_ 14 (d := d_is_rule) rfl
theorem Env.fun_Book___init__ (S : Env P w K mg base) : ∃ fd, FunD K d_Book___init__.name d_Book___init__.qual d_Book___init__.params d_Book___init__.body d_Book___init__.scope [] [] (He.fAd K d_Book___init__.at_) fd := S.s.def_ 15 (d := d_Book___init__) rfl
theorem Env.fun_Book___eq__ (S : Env P w K mg base) : ∃ fd, FunD K d_Book___eq__.name d_Book___eq__.qual d_Book___eq__.params d_Book___eq__.body d_Book___eq__.scope [] [] (He.fAd K d_Book___eq__.at_) fd := S.s.def_ 16 (d := d_Book___eq__) rfl
theorem Env.fun_Book_rules (S : Env P w K mg base) : ∃ fd, FunD K d_Book_rules.name d_Book_rules.qual d_Book_rules.params d_Book_rules.body d_Book_rules.scope [] [] (He.fAd K d_Book_rules.at_) fd := S.s.def_ 17 (d := d_Book_rules) rfl
theorem Env.fun_need_book (S : Env P w K mg base) : ∃ fd, FunD K d_need_book.name d_need_book.qual d_need_book.params d_need_book.body d_need_book.scope [] [] (He.fAd K d_need_book.at_) fd := S.s.def_ 18 (d := d_need_book) rfl
theorem Env.fun_Way___init__ (S : Env P w K mg base) : ∃ fd, FunD K d_Way___init__.name d_Way___init__.qual d_Way___init__.params d_Way___init__.body d_Way___init__.scope [] [] (He.fAd K d_Way___init__.at_) fd := S.s.def_ 19 (d := d_Way___init__) rfl
theorem Env.fun_Way___eq__ (S : Env P w K mg base) : ∃ fd, FunD K d_Way___eq__.name d_Way___eq__.qual d_Way___eq__.params d_Way___eq__.body d_Way___eq__.scope [] [] (He.fAd K d_Way___eq__.at_) fd := S.s.def_ 20 (d := d_Way___eq__) rfl
theorem Env.fun_Way_book (S : Env P w K mg base) : ∃ fd, FunD K d_Way_book.name d_Way_book.qual d_Way_book.params d_Way_book.body d_Way_book.scope [] [] (He.fAd K d_Way_book.at_) fd := S.s.def_ 21 (d := d_Way_book) rfl
theorem Env.fun_Way_word (S : Env P w K mg base) : ∃ fd, FunD K d_Way_word.name d_Way_word.qual d_Way_word.params d_Way_word.body d_Way_word.scope [] [] (He.fAd K d_Way_word.at_) fd := S.s.def_ 22 (d := d_Way_word) rfl
theorem Env.fun_Way_steps (S : Env P w K mg base) : ∃ fd, FunD K d_Way_steps.name d_Way_steps.qual d_Way_steps.params d_Way_steps.body d_Way_steps.scope [] [] (He.fAd K d_Way_steps.at_) fd := S.s.def_ 23 (d := d_Way_steps) rfl
theorem Env.fun_Way_end (S : Env P w K mg base) : ∃ fd, FunD K d_Way_end.name d_Way_end.qual d_Way_end.params d_Way_end.body d_Way_end.scope [] [] (He.fAd K d_Way_end.at_) fd := S.s.def_ 24 (d := d_Way_end) rfl
theorem Env.fun_Way_words (S : Env P w K mg base) : ∃ fd, FunD K d_Way_words.name d_Way_words.qual d_Way_words.params d_Way_words.body d_Way_words.scope [] [] (He.fAd K d_Way_words.at_) fd := S.s.def_ 25 (d := d_Way_words) rfl
theorem Env.fun_need_way (S : Env P w K mg base) : ∃ fd, FunD K d_need_way.name d_need_way.qual d_need_way.params d_need_way.body d_need_way.scope [] [] (He.fAd K d_need_way.at_) fd := S.s.def_ 26 (d := d_need_way) rfl
theorem Env.fun_wires_and_end (S : Env P w K mg base) : ∃ fd, FunD K d_wires_and_end.name d_wires_and_end.qual d_wires_and_end.params d_wires_and_end.body d_wires_and_end.scope [] [] (He.fAd K d_wires_and_end.at_) fd := S.s.def_ 27 (d := d_wires_and_end) rfl
theorem Env.fun_wires (S : Env P w K mg base) : ∃ fd, FunD K d_wires.name d_wires.qual d_wires.params d_wires.body d_wires.scope [] [] (He.fAd K d_wires.at_) fd := S.s.def_ 28 (d := d_wires) rfl
theorem Env.fun_steps_in (S : Env P w K mg base) : ∃ fd, FunD K d_steps_in.name d_steps_in.qual d_steps_in.params d_steps_in.body d_steps_in.scope [] [] (He.fAd K d_steps_in.at_) fd := S.s.def_ 29 (d := d_steps_in) rfl
theorem Env.fun_hung_lots (S : Env P w K mg base) : ∃ fd, FunD K d_hung_lots.name d_hung_lots.qual d_hung_lots.params d_hung_lots.body d_hung_lots.scope [] [] (He.fAd K d_hung_lots.at_) fd := S.s.def_ 30 (d := d_hung_lots) rfl
theorem Env.fun_hangs (S : Env P w K mg base) : ∃ fd, FunD K d_hangs.name d_hangs.qual d_hangs.params d_hangs.body d_hangs.scope [] [] (He.fAd K d_hangs.at_) fd := S.s.def_ 31 (d := d_hangs) rfl
theorem Env.fun__law_b_needs (S : Env P w K mg base) : ∃ fd, FunD K d__law_b_needs.name d__law_b_needs.qual d__law_b_needs.params d__law_b_needs.body d__law_b_needs.scope [] [] (He.fAd K d__law_b_needs.at_) fd := S.s.def_ 32 (d := d__law_b_needs) rfl
theorem Env.fun__law_b_orders (S : Env P w K mg base) : ∃ fd, FunD K d__law_b_orders.name d__law_b_orders.qual d__law_b_orders.params d__law_b_orders.body d__law_b_orders.scope [] [] (He.fAd K d__law_b_orders.at_) fd := S.s.def_ 33 (d := d__law_b_orders) rfl
theorem Env.fun__law_b_case (S : Env P w K mg base) : ∃ fd, FunD K d__law_b_case.name d__law_b_case.qual d__law_b_case.params d__law_b_case.body d__law_b_case.scope [] [] (He.fAd K d__law_b_case.at_) fd := S.s.def_ 34 (d := d__law_b_case) rfl
theorem Env.fun__law_w_source (S : Env P w K mg base) : ∃ fd, FunD K d__law_w_source.name d__law_w_source.qual d__law_w_source.params d__law_w_source.body d__law_w_source.scope [] [] (He.fAd K d__law_w_source.at_) fd := S.s.def_ 35 (d := d__law_w_source) rfl
theorem Env.fun__law_w_goal (S : Env P w K mg base) : ∃ fd, FunD K d__law_w_goal.name d__law_w_goal.qual d__law_w_goal.params d__law_w_goal.body d__law_w_goal.scope [] [] (He.fAd K d__law_w_goal.at_) fd := S.s.def_ 36 (d := d__law_w_goal) rfl
theorem Env.fun__law_w_can (S : Env P w K mg base) : ∃ fd, FunD K d__law_w_can.name d__law_w_can.qual d__law_w_can.params d__law_w_can.body d__law_w_can.scope [] [] (He.fAd K d__law_w_can.at_) fd := S.s.def_ 37 (d := d__law_w_can) rfl
theorem Env.fun__law_w_done (S : Env P w K mg base) : ∃ fd, FunD K d__law_w_done.name d__law_w_done.qual d__law_w_done.params d__law_w_done.body d__law_w_done.scope [] [] (He.fAd K d__law_w_done.at_) fd := S.s.def_ 38 (d := d__law_w_done) rfl
theorem Env.fun__law_w_end (S : Env P w K mg base) : ∃ fd, FunD K d__law_w_end.name d__law_w_end.qual d__law_w_end.params d__law_w_end.body d__law_w_end.scope [] [] (He.fAd K d__law_w_end.at_) fd := S.s.def_ 39 (d := d__law_w_end) rfl
theorem Env.fun__law_w_turned (S : Env P w K mg base) : ∃ fd, FunD K d__law_w_turned.name d__law_w_turned.qual d__law_w_turned.params d__law_w_turned.body d__law_w_turned.scope [] [] (He.fAd K d__law_w_turned.at_) fd := S.s.def_ 40 (d := d__law_w_turned) rfl
theorem Env.fun__law_w_all (S : Env P w K mg base) : ∃ fd, FunD K d__law_w_all.name d__law_w_all.qual d__law_w_all.params d__law_w_all.body d__law_w_all.scope [] [] (He.fAd K d__law_w_all.at_) fd := S.s.def_ 41 (d := d__law_w_all) rfl
theorem Env.fun__law_w_swapped (S : Env P w K mg base) : ∃ fd, FunD K d__law_w_swapped.name d__law_w_swapped.qual d__law_w_swapped.params d__law_w_swapped.body d__law_w_swapped.scope [] [] (He.fAd K d__law_w_swapped.at_) fd := S.s.def_ 42 (d := d__law_w_swapped) rfl
theorem Env.fun__law_w_boxes (S : Env P w K mg base) : ∃ fd, FunD K d__law_w_boxes.name d__law_w_boxes.qual d__law_w_boxes.params d__law_w_boxes.body d__law_w_boxes.scope [] [] (He.fAd K d__law_w_boxes.at_) fd := S.s.def_ 43 (d := d__law_w_boxes) rfl
theorem Env.fun__law_w_book (S : Env P w K mg base) : ∃ fd, FunD K d__law_w_book.name d__law_w_book.qual d__law_w_book.params d__law_w_book.body d__law_w_book.scope [] [] (He.fAd K d__law_w_book.at_) fd := S.s.def_ 44 (d := d__law_w_book) rfl
theorem Env.fun__law_w_word (S : Env P w K mg base) : ∃ fd, FunD K d__law_w_word.name d__law_w_word.qual d__law_w_word.params d__law_w_word.body d__law_w_word.scope [] [] (He.fAd K d__law_w_word.at_) fd := S.s.def_ 45 (d := d__law_w_word) rfl
theorem Env.fun__law_w_way (S : Env P w K mg base) : ∃ fd, FunD K d__law_w_way.name d__law_w_way.qual d__law_w_way.params d__law_w_way.body d__law_w_way.scope [] [] (He.fAd K d__law_w_way.at_) fd := S.s.def_ 46 (d := d__law_w_way) rfl
theorem Env.fun__law_w_stirred (S : Env P w K mg base) : ∃ fd, FunD K d__law_w_stirred.name d__law_w_stirred.qual d__law_w_stirred.params d__law_w_stirred.body d__law_w_stirred.scope [] [] (He.fAd K d__law_w_stirred.at_) fd := S.s.def_ 47 (d := d__law_w_stirred) rfl
theorem Env.fun__law_start (S : Env P w K mg base) : ∃ fd, FunD K d__law_start.name d__law_start.qual d__law_start.params d__law_start.body d__law_start.scope [] [] (He.fAd K d__law_start.at_) fd := S.s.def_ 48 (d := d__law_start) rfl
theorem Env.fun__law_draw (S : Env P w K mg base) : ∃ fd, FunD K d__law_draw.name d__law_draw.qual d__law_draw.params d__law_draw.body d__law_draw.scope [] [] (He.fAd K d__law_draw.at_) fd := S.s.def_ 49 (d := d__law_draw) rfl
theorem Env.fun__law_pick (S : Env P w K mg base) : ∃ fd, FunD K d__law_pick.name d__law_pick.qual d__law_pick.params d__law_pick.body d__law_pick.scope [] [] (He.fAd K d__law_pick.at_) fd := S.s.def_ 50 (d := d__law_pick) rfl
theorem Env.fun__law_mixed (S : Env P w K mg base) : ∃ fd, FunD K d__law_mixed.name d__law_mixed.qual d__law_mixed.params d__law_mixed.body d__law_mixed.scope [] [] (He.fAd K d__law_mixed.at_) fd := S.s.def_ 51 (d := d__law_mixed) rfl
theorem Env.fun__law_same (S : Env P w K mg base) : ∃ fd, FunD K d__law_same.name d__law_same.qual d__law_same.params d__law_same.body d__law_same.scope [] [] (He.fAd K d__law_same.at_) fd := S.s.def_ 52 (d := d__law_same) rfl
theorem Env.fun__law_each_once (S : Env P w K mg base) : ∃ fd, FunD K d__law_each_once.name d__law_each_once.qual d__law_each_once.params d__law_each_once.body d__law_each_once.scope [] [] (He.fAd K d__law_each_once.at_) fd := S.s.def_ 53 (d := d__law_each_once) rfl
theorem Env.fun__law_loose (S : Env P w K mg base) : ∃ fd, FunD K d__law_loose.name d__law_loose.qual d__law_loose.params d__law_loose.body d__law_loose.scope [] [] (He.fAd K d__law_loose.at_) fd := S.s.def_ 54 (d := d__law_loose) rfl
theorem Env.fun__law_spoilt (S : Env P w K mg base) : ∃ fd, FunD K d__law_spoilt.name d__law_spoilt.qual d__law_spoilt.params d__law_spoilt.body d__law_spoilt.scope [] [] (He.fAd K d__law_spoilt.at_) fd := S.s.def_ 55 (d := d__law_spoilt) rfl
theorem Env.fun__law_is_once (S : Env P w K mg base) : ∃ fd, FunD K d__law_is_once.name d__law_is_once.qual d__law_is_once.params d__law_is_once.body d__law_is_once.scope [] [] (He.fAd K d__law_is_once.at_) fd := S.s.def_ 56 (d := d__law_is_once) rfl
theorem Env.fun__law_apart (S : Env P w K mg base) : ∃ fd, FunD K d__law_apart.name d__law_apart.qual d__law_apart.params d__law_apart.body d__law_apart.scope [] [] (He.fAd K d__law_apart.at_) fd := S.s.def_ 57 (d := d__law_apart) rfl
theorem Env.fun__law_met (S : Env P w K mg base) : ∃ fd, FunD K d__law_met.name d__law_met.qual d__law_met.params d__law_met.body d__law_met.scope [] [] (He.fAd K d__law_met.at_) fd := S.s.def_ 58 (d := d__law_met) rfl
theorem Env.fun__law_ahead_always (S : Env P w K mg base) : ∃ fd, FunD K d__law_ahead_always.name d__law_ahead_always.qual d__law_ahead_always.params d__law_ahead_always.body d__law_ahead_always.scope [] [] (He.fAd K d__law_ahead_always.at_) fd := S.s.def_ 59 (d := d__law_ahead_always) rfl
theorem Env.fun__law_hangs_right (S : Env P w K mg base) : ∃ fd, FunD K d__law_hangs_right.name d__law_hangs_right.qual d__law_hangs_right.params d__law_hangs_right.body d__law_hangs_right.scope [] [] (He.fAd K d__law_hangs_right.at_) fd := S.s.def_ 60 (d := d__law_hangs_right) rfl
theorem Env.fun_law (S : Env P w K mg base) : ∃ fd, FunD K d_law.name d_law.qual d_law.params d_law.body d_law.scope [] [] (He.fAd K d_law.at_) fd := S.s.def_ 61 (d := d_law) rfl
theorem Env.exm_BadBook_BadWay (S : Env P w K mg base) : PySem.W.exmOne K (.ref (He.ga K "BadBook")) (.ref (He.ga K "BadWay")) = some false := of_decide_eq_true (S.ex_ 5 rfl)
theorem Env.exm_BadRules_BadWay (S : Env P w K mg base) : PySem.W.exmOne K (.ref (He.ga K "BadRules")) (.ref (He.ga K "BadWay")) = some false := of_decide_eq_true (S.ex_ 6 rfl)
theorem Env.exm_BadSteps_BadWay (S : Env P w K mg base) : PySem.W.exmOne K (.ref (He.ga K "BadSteps")) (.ref (He.ga K "BadWay")) = some false := of_decide_eq_true (S.ex_ 7 rfl)
theorem Env.exm_BadWay_BadWay (S : Env P w K mg base) : PySem.W.exmOne K (.ref (He.ga K "BadWay")) (.ref (He.ga K "BadWay")) = some true := of_decide_eq_true (S.ex_ 8 rfl)
theorem Env.exm_BadWord_BadWay (S : Env P w K mg base) : PySem.W.exmOne K (.ref (He.ga K "BadWord")) (.ref (He.ga K "BadWay")) = some false := of_decide_eq_true (S.ex_ 9 rfl)
theorem Env.ins_Book (S : Env P w K mg base) {H : Hp} {a dx : Addr} {fs : List (Str × V)} (h : H a = some (.ins (He.ga K "Book") dx fs)) : TyX K H (.ref a) (.ref (He.ga K "Book")) := insB_ok S.cls_Book (S.ex_ 10 rfl) h
theorem Env.kit_Book_Book (S : Env P w K mg base) : PySem.W.kitOne K (.ref (He.ga K "Book")) (.ref (He.ga K "Book")) = some true := of_decide_eq_true (S.ex_ 11 rfl)
theorem Env.kit_Book_Way (S : Env P w K mg base) : PySem.W.kitOne K (.ref (He.ga K "Book")) (.ref (He.ga K "Way")) = some false := of_decide_eq_true (S.ex_ 12 rfl)
theorem Env.kto_NoneType_Book (S : Env P w K mg base) : PySem.W.kitOne K (.type "NoneType") (.ref (He.ga K "Book")) = some false := of_decide_eq_true (S.ex_ 13 rfl)
theorem Env.kto_bool_Book (S : Env P w K mg base) : PySem.W.kitOne K (.type "bool") (.ref (He.ga K "Book")) = some false := of_decide_eq_true (S.ex_ 14 rfl)
theorem Env.kto_int_Book (S : Env P w K mg base) : PySem.W.kitOne K (.type "int") (.ref (He.ga K "Book")) = some false := of_decide_eq_true (S.ex_ 15 rfl)
theorem Env.kto_str_Book (S : Env P w K mg base) : PySem.W.kitOne K (.type "str") (.ref (He.ga K "Book")) = some false := of_decide_eq_true (S.ex_ 16 rfl)
theorem Env.kto_list_Book (S : Env P w K mg base) : PySem.W.kitOne K (.type "list") (.ref (He.ga K "Book")) = some false := of_decide_eq_true (S.ex_ 17 rfl)
theorem Env.kto_tuple_Book (S : Env P w K mg base) : PySem.W.kitOne K (.type "tuple") (.ref (He.ga K "Book")) = some false := of_decide_eq_true (S.ex_ 18 rfl)
theorem Env.kto_dict_Book (S : Env P w K mg base) : PySem.W.kitOne K (.type "dict") (.ref (He.ga K "Book")) = some false := of_decide_eq_true (S.ex_ 19 rfl)
theorem Env.kot_Book_NoneType (S : Env P w K mg base) : PySem.W.kitOne K (.ref (He.ga K "Book")) (.type "NoneType") = some false := of_decide_eq_true (S.ex_ 20 rfl)
theorem Env.kot_Book_bool (S : Env P w K mg base) : PySem.W.kitOne K (.ref (He.ga K "Book")) (.type "bool") = some false := of_decide_eq_true (S.ex_ 21 rfl)
theorem Env.kot_Book_int (S : Env P w K mg base) : PySem.W.kitOne K (.ref (He.ga K "Book")) (.type "int") = some false := of_decide_eq_true (S.ex_ 22 rfl)
theorem Env.kot_Book_str (S : Env P w K mg base) : PySem.W.kitOne K (.ref (He.ga K "Book")) (.type "str") = some false := of_decide_eq_true (S.ex_ 23 rfl)
theorem Env.kot_Book_list (S : Env P w K mg base) : PySem.W.kitOne K (.ref (He.ga K "Book")) (.type "list") = some false := of_decide_eq_true (S.ex_ 24 rfl)
theorem Env.kot_Book_tuple (S : Env P w K mg base) : PySem.W.kitOne K (.ref (He.ga K "Book")) (.type "tuple") = some false := of_decide_eq_true (S.ex_ 25 rfl)
theorem Env.kot_Book_dict (S : Env P w K mg base) : PySem.W.kitOne K (.ref (He.ga K "Book")) (.type "dict") = some false := of_decide_eq_true (S.ex_ 26 rfl)
theorem Env.ins_Way (S : Env P w K mg base) {H : Hp} {a dx : Addr} {fs : List (Str × V)} (h : H a = some (.ins (He.ga K "Way") dx fs)) : TyX K H (.ref a) (.ref (He.ga K "Way")) := insB_ok S.cls_Way (S.ex_ 27 rfl) h
theorem Env.kit_Way_Book (S : Env P w K mg base) : PySem.W.kitOne K (.ref (He.ga K "Way")) (.ref (He.ga K "Book")) = some false := of_decide_eq_true (S.ex_ 28 rfl)
theorem Env.kit_Way_Way (S : Env P w K mg base) : PySem.W.kitOne K (.ref (He.ga K "Way")) (.ref (He.ga K "Way")) = some true := of_decide_eq_true (S.ex_ 29 rfl)
theorem Env.kto_NoneType_Way (S : Env P w K mg base) : PySem.W.kitOne K (.type "NoneType") (.ref (He.ga K "Way")) = some false := of_decide_eq_true (S.ex_ 30 rfl)
theorem Env.kto_bool_Way (S : Env P w K mg base) : PySem.W.kitOne K (.type "bool") (.ref (He.ga K "Way")) = some false := of_decide_eq_true (S.ex_ 31 rfl)
theorem Env.kto_int_Way (S : Env P w K mg base) : PySem.W.kitOne K (.type "int") (.ref (He.ga K "Way")) = some false := of_decide_eq_true (S.ex_ 32 rfl)
theorem Env.kto_str_Way (S : Env P w K mg base) : PySem.W.kitOne K (.type "str") (.ref (He.ga K "Way")) = some false := of_decide_eq_true (S.ex_ 33 rfl)
theorem Env.kto_list_Way (S : Env P w K mg base) : PySem.W.kitOne K (.type "list") (.ref (He.ga K "Way")) = some false := of_decide_eq_true (S.ex_ 34 rfl)
theorem Env.kto_tuple_Way (S : Env P w K mg base) : PySem.W.kitOne K (.type "tuple") (.ref (He.ga K "Way")) = some false := of_decide_eq_true (S.ex_ 35 rfl)
theorem Env.kto_dict_Way (S : Env P w K mg base) : PySem.W.kitOne K (.type "dict") (.ref (He.ga K "Way")) = some false := of_decide_eq_true (S.ex_ 36 rfl)
theorem Env.kot_Way_NoneType (S : Env P w K mg base) : PySem.W.kitOne K (.ref (He.ga K "Way")) (.type "NoneType") = some false := of_decide_eq_true (S.ex_ 37 rfl)
theorem Env.kot_Way_bool (S : Env P w K mg base) : PySem.W.kitOne K (.ref (He.ga K "Way")) (.type "bool") = some false := of_decide_eq_true (S.ex_ 38 rfl)
theorem Env.kot_Way_int (S : Env P w K mg base) : PySem.W.kitOne K (.ref (He.ga K "Way")) (.type "int") = some false := of_decide_eq_true (S.ex_ 39 rfl)
theorem Env.kot_Way_str (S : Env P w K mg base) : PySem.W.kitOne K (.ref (He.ga K "Way")) (.type "str") = some false := of_decide_eq_true (S.ex_ 40 rfl)
theorem Env.kot_Way_list (S : Env P w K mg base) : PySem.W.kitOne K (.ref (He.ga K "Way")) (.type "list") = some false := of_decide_eq_true (S.ex_ 41 rfl)
theorem Env.kot_Way_tuple (S : Env P w K mg base) : PySem.W.kitOne K (.ref (He.ga K "Way")) (.type "tuple") = some false := of_decide_eq_true (S.ex_ 42 rfl)
theorem Env.kot_Way_dict (S : Env P w K mg base) : PySem.W.kitOne K (.ref (He.ga K "Way")) (.type "dict") = some false := of_decide_eq_true (S.ex_ 43 rfl)
theorem Env.con_TURNS (S : Env P w K mg base) (H : Hp) : SqT K H (He.ga K "TURNS") [.str "back", .str "on"] := He.tupB_ok (S.ex_ 44 rfl) H
end
theorem sc_BadBook___init__ : FnScope ["self", "thing"] ["self", "thing"] (defScope s_BadBook___init__) := C8.fnScope_by (by decide +kernel)
theorem sc_BadRules___init__ : FnScope ["self", "index"] ["self", "index"] (defScope s_BadRules___init__) := C8.fnScope_by (by decide +kernel)
theorem sc_BadSteps___init__ : FnScope ["self", "index"] ["self", "index"] (defScope s_BadSteps___init__) := C8.fnScope_by (by decide +kernel)
theorem sc_BadWay___init__ : FnScope ["self", "thing"] ["self", "thing"] (defScope s_BadWay___init__) := C8.fnScope_by (by decide +kernel)
theorem sc_BadWord___init__ : FnScope ["self", "thing"] ["self", "thing"] (defScope s_BadWord___init__) := C8.fnScope_by (by decide +kernel)
theorem sc_is_word : FnScope ["thing"] ["thing"] (defScope s_is_word) := C8.fnScope_by (by decide +kernel)
theorem sc_is_integer : FnScope ["thing"] ["thing"] (defScope s_is_integer) := C8.fnScope_by (by decide +kernel)
theorem sc_is_number : FnScope ["thing"] ["thing"] (defScope s_is_number) := C8.fnScope_by (by decide +kernel)
theorem sc_is_row : FnScope ["thing"] ["thing"] (defScope s_is_row) := C8.fnScope_by (by decide +kernel)
theorem sc_is_step : FnScope ["thing", "place", "rule", "turn"] ["thing"] (defScope s_is_step) := C8.fnScope_by (by decide +kernel)
theorem sc_need_word : FnScope ["thing"] ["thing"] (defScope s_need_word) := C8.fnScope_by (by decide +kernel)
theorem sc_sides : FnScope ["rules", "step", "left", "right"] ["rules", "step"] (defScope s_sides) := C8.fnScope_by (by decide +kernel)
theorem sc_can_do : FnScope ["rules", "word", "thing", "place", "source", "_"] ["rules", "word", "thing"] (defScope s_can_do) := C8.fnScope_by (by decide +kernel)
theorem sc_word_behind : FnScope ["rules", "word", "step", "source", "goal", "place"] ["rules", "word", "step"] (defScope s_word_behind) := C8.fnScope_by (by decide +kernel)
theorem sc_is_rule : FnScope ["thing", "left", "right"] ["thing"] (defScope s_is_rule) := C8.fnScope_by (by decide +kernel)
theorem sc_Book___init__ : FnScope ["self", "rules", "index", "rule"] ["self", "rules"] (defScope s_Book___init__) := C8.fnScope_by (by decide +kernel)
theorem sc_Book___eq__ : FnScope ["self", "other"] ["self", "other"] (defScope s_Book___eq__) := C8.fnScope_by (by decide +kernel)
theorem sc_Book_rules : FnScope ["self"] ["self"] (defScope s_Book_rules) := C8.fnScope_by (by decide +kernel)
theorem sc_need_book : FnScope ["thing"] ["thing"] (defScope s_need_book) := C8.fnScope_by (by decide +kernel)
theorem sc_Way___init__ : FnScope ["self", "book", "word", "steps", "rules", "words", "index", "step"] ["self", "book", "word", "steps"] (defScope s_Way___init__) := C8.fnScope_by (by decide +kernel)
theorem sc_Way___eq__ : FnScope ["self", "other"] ["self", "other"] (defScope s_Way___eq__) := C8.fnScope_by (by decide +kernel)
theorem sc_Way_book : FnScope ["self"] ["self"] (defScope s_Way_book) := C8.fnScope_by (by decide +kernel)
theorem sc_Way_word : FnScope ["self"] ["self"] (defScope s_Way_word) := C8.fnScope_by (by decide +kernel)
theorem sc_Way_steps : FnScope ["self"] ["self"] (defScope s_Way_steps) := C8.fnScope_by (by decide +kernel)
theorem sc_Way_end : FnScope ["self"] ["self"] (defScope s_Way_end) := C8.fnScope_by (by decide +kernel)
theorem sc_Way_words : FnScope ["self"] ["self"] (defScope s_Way_words) := C8.fnScope_by (by decide +kernel)
theorem sc_need_way : FnScope ["thing"] ["thing"] (defScope s_need_way) := C8.fnScope_by (by decide +kernel)
theorem sc_wires_and_end : FnScope ["way", "rules", "row", "fresh", "told", "step", "source", "goal", "place", "taken", "given"] ["way"] (defScope s_wires_and_end) := C8.fnScope_by (by decide +kernel)
theorem sc_wires : FnScope ["way"] ["way"] (defScope s_wires) := C8.fnScope_by (by decide +kernel)
theorem sc_steps_in : FnScope ["lot", "many", "index"] ["lot", "many"] (defScope s_steps_in) := C8.fnScope_by (by decide +kernel)
theorem sc_hung_lots : FnScope ["way", "giver", "lots", "index", "taken", "given", "lot", "wire"] ["way"] (defScope s_hung_lots) := C8.fnScope_by (by decide +kernel)
theorem sc_hangs : FnScope ["way", "index", "lot"] ["way"] (defScope s_hangs) := C8.fnScope_by (by decide +kernel)
theorem sc__law_b_needs : FnScope ["rules", "word", "steps", "boxes", "found", "box", "ahead", "i", "other", "wire", "some"] ["rules", "word", "steps"] (defScope s__law_b_needs) := C8.fnScope_by (by decide +kernel)
theorem sc__law_b_orders : FnScope ["rules", "steps", "found", "met", "at", "row", "told", "k", "both", "later"] ["rules", "steps"] (defScope s__law_b_orders) := C8.fnScope_by (by decide +kernel)
theorem sc__law_b_case : FnScope ["stream", "many", "size", "rules", "word", "steps"] ["stream", "many", "size"] (defScope s__law_b_case) := C8.fnScope_by (by decide +kernel)
theorem sc__law_w_source : FnScope ["rules", "step"] ["rules", "step"] (defScope s__law_w_source) := C8.fnScope_by (by decide +kernel)
theorem sc__law_w_goal : FnScope ["rules", "step"] ["rules", "step"] (defScope s__law_w_goal) := C8.fnScope_by (by decide +kernel)
theorem sc__law_w_can : FnScope ["rules", "word", "step", "source"] ["rules", "word", "step"] (defScope s__law_w_can) := C8.fnScope_by (by decide +kernel)
theorem sc__law_w_done : FnScope ["rules", "word", "step"] ["rules", "word", "step"] (defScope s__law_w_done) := C8.fnScope_by (by decide +kernel)
theorem sc__law_w_end : FnScope ["rules", "word", "steps", "step"] ["rules", "word", "steps"] (defScope s__law_w_end) := C8.fnScope_by (by decide +kernel)
theorem sc__law_w_turned : FnScope ["step"] ["step"] (defScope s__law_w_turned) := C8.fnScope_by (by decide +kernel)
theorem sc__law_w_all : FnScope ["rules", "word", "found", "place", "rule", "turn", "some", "step"] ["rules", "word"] (defScope s__law_w_all) := C8.fnScope_by (by decide +kernel)
theorem sc__law_w_swapped : FnScope ["rules", "first", "second", "grown", "more"] ["rules", "first", "second"] (defScope s__law_w_swapped) := C8.fnScope_by (by decide +kernel)
theorem sc__law_w_boxes : FnScope ["rules", "word", "steps", "row", "number", "found", "place", "rule", "turn", "behind", "k", "given"] ["rules", "word", "steps"] (defScope s__law_w_boxes) := C8.fnScope_by (by decide +kernel)
theorem sc__law_w_book : FnScope ["stream", "some", "rules", "k", "n", "sides_v", "at", "names", "rule", "side", "sign"] ["stream"] (defScope s__law_w_book) := C8.fnScope_by (by decide +kernel)
theorem sc__law_w_word : FnScope ["stream", "rules", "many", "found", "k"] ["stream", "rules", "many"] (defScope s__law_w_word) := C8.fnScope_by (by decide +kernel)
theorem sc__law_w_way : FnScope ["stream", "rules", "word", "many", "most", "found", "k", "here", "step", "some"] ["stream", "rules", "word", "many", "most"] (defScope s__law_w_way) := C8.fnScope_by (by decide +kernel)
theorem sc__law_w_stirred : FnScope ["stream", "rules", "word", "steps", "many", "most", "k", "at", "how", "some", "step", "both"] ["stream", "rules", "word", "steps", "many", "most"] (defScope s__law_w_stirred) := C8.fnScope_by (by decide +kernel)
theorem sc__law_start : FnScope ["script"] ["script"] (defScope s__law_start) := C8.fnScope_by (by decide +kernel)
theorem sc__law_draw : FnScope ["stream", "many", "cell", "digit", "mixed"] ["stream", "many"] (defScope s__law_draw) := C8.fnScope_by (by decide +kernel)
theorem sc__law_pick : FnScope ["stream", "some"] ["stream", "some"] (defScope s__law_pick) := C8.fnScope_by (by decide +kernel)
theorem sc__law_mixed : FnScope ["stream", "some", "left", "k"] ["stream", "some"] (defScope s__law_mixed) := C8.fnScope_by (by decide +kernel)
theorem sc__law_same : FnScope ["found", "due", "x", "y"] ["found", "due"] (defScope s__law_same) := C8.fnScope_by (by decide +kernel)
theorem sc__law_each_once : FnScope ["things", "found", "thing"] ["things"] (defScope s__law_each_once) := C8.fnScope_by (by decide +kernel)
theorem sc__law_loose : FnScope ["stream", "thing", "key", "part", "found"] ["stream", "thing"] (defScope s__law_loose) := C8.fnScope_by (by decide +kernel)
theorem sc__law_spoilt : FnScope ["thing", "key", "part"] ["thing"] (defScope s__law_spoilt) := C8.fnScope_by (by decide +kernel)
theorem sc__law_is_once : FnScope ["thing", "key", "many", "part"] ["thing"] (defScope s__law_is_once) := C8.fnScope_by (by decide +kernel)
theorem sc__law_apart : FnScope ["thing"] ["thing"] (defScope s__law_apart) := C8.fnScope_by (by decide +kernel)
theorem sc__law_met : FnScope ["ask", "e"] ["ask"] (defScope s__law_met) := C8.fnScope_by (by decide +kernel)
theorem sc__law_ahead_always : FnScope ["steps", "rows", "found", "k", "i", "row"] ["steps", "rows"] (defScope s__law_ahead_always) := C8.fnScope_by (by decide +kernel)
theorem sc__law_hangs_right : FnScope ["stream", "rules", "word", "steps", "way", "due", "told", "rows", "row", "order", "found", "k", "i"] ["stream", "rules", "word", "steps"] (defScope s__law_hangs_right) := C8.fnScope_by (by decide +kernel)
theorem sc_law : FnScope ["script", "stream", "turn", "rules", "word", "steps", "thing"] ["script"] (defScope s_law) := C8.fnScope_by (by decide +kernel)
section
variable {P : Program} {w : World} {K : PySem.W.Frag} {mg : Str → Option Value} {base : Heap}
theorem er_BadBook (S : Env P w K mg base) : Er P w K mg base 1 "BadBook" (He.ga K "BadBook") "thing" := errB_ok (S.ex_ 0 rfl) S.glo_BadBook (by
  obtain ⟨fd, F⟩ := S.fun_BadBook___init__
  have b : L2.Binds K fd ["self", "thing"] [] := F.bindsN fun _ _ _ _ _ _ us hl => match us, hl with | [_, _], _ => rfl
  exact ⟨fd, b, F.ok (CX := L2.CX P w) sc_BadBook___init__ (ini_len _ _) fun cdv A outer s H vs Q E hr h => ⟨_, pss_one (ps_ost (pv 0) (pv 1)), ini_body (errB_ox (S.ex_ 0 rfl)) (errB_no (S.ex_ 0 rfl)) h rfl⟩⟩)
theorem er_BadRules (S : Env P w K mg base) : Er P w K mg base 1 "BadRules" (He.ga K "BadRules") "index" := errB_ok (S.ex_ 1 rfl) S.glo_BadRules (by
  obtain ⟨fd, F⟩ := S.fun_BadRules___init__
  have b : L2.Binds K fd ["self", "index"] [] := F.bindsN fun _ _ _ _ _ _ us hl => match us, hl with | [_, _], _ => rfl
  exact ⟨fd, b, F.ok (CX := L2.CX P w) sc_BadRules___init__ (ini_len _ _) fun cdv A outer s H vs Q E hr h => ⟨_, pss_one (ps_ost (pv 0) (pv 1)), ini_body (errB_ox (S.ex_ 1 rfl)) (errB_no (S.ex_ 1 rfl)) h rfl⟩⟩)
theorem er_BadSteps (S : Env P w K mg base) : Er P w K mg base 1 "BadSteps" (He.ga K "BadSteps") "index" := errB_ok (S.ex_ 2 rfl) S.glo_BadSteps (by
  obtain ⟨fd, F⟩ := S.fun_BadSteps___init__
  have b : L2.Binds K fd ["self", "index"] [] := F.bindsN fun _ _ _ _ _ _ us hl => match us, hl with | [_, _], _ => rfl
  exact ⟨fd, b, F.ok (CX := L2.CX P w) sc_BadSteps___init__ (ini_len _ _) fun cdv A outer s H vs Q E hr h => ⟨_, pss_one (ps_ost (pv 0) (pv 1)), ini_body (errB_ox (S.ex_ 2 rfl)) (errB_no (S.ex_ 2 rfl)) h rfl⟩⟩)
theorem er_BadWay (S : Env P w K mg base) : Er P w K mg base 1 "BadWay" (He.ga K "BadWay") "thing" := errB_ok (S.ex_ 3 rfl) S.glo_BadWay (by
  obtain ⟨fd, F⟩ := S.fun_BadWay___init__
  have b : L2.Binds K fd ["self", "thing"] [] := F.bindsN fun _ _ _ _ _ _ us hl => match us, hl with | [_, _], _ => rfl
  exact ⟨fd, b, F.ok (CX := L2.CX P w) sc_BadWay___init__ (ini_len _ _) fun cdv A outer s H vs Q E hr h => ⟨_, pss_one (ps_ost (pv 0) (pv 1)), ini_body (errB_ox (S.ex_ 3 rfl)) (errB_no (S.ex_ 3 rfl)) h rfl⟩⟩)
theorem er_BadWord (S : Env P w K mg base) : Er P w K mg base 1 "BadWord" (He.ga K "BadWord") "thing" := errB_ok (S.ex_ 4 rfl) S.glo_BadWord (by
  obtain ⟨fd, F⟩ := S.fun_BadWord___init__
  have b : L2.Binds K fd ["self", "thing"] [] := F.bindsN fun _ _ _ _ _ _ us hl => match us, hl with | [_, _], _ => rfl
  exact ⟨fd, b, F.ok (CX := L2.CX P w) sc_BadWord___init__ (ini_len _ _) fun cdv A outer s H vs Q E hr h => ⟨_, pss_one (ps_ost (pv 0) (pv 1)), ini_body (errB_ox (S.ex_ 4 rfl)) (errB_no (S.ex_ 4 rfl)) h rfl⟩⟩)
end
def names0 : List PySem.Str := ["is_word", "is_integer", "is_number", "is_row", "is_step", "need_word", "sides", "can_do", "word_behind", "is_rule", "need_book", "need_way", "wires_and_end", "wires", "steps_in", "hung_lots"]
def names1 : List PySem.Str := ["hangs", "_law_b_needs", "_law_b_orders", "_law_b_case", "_law_w_source", "_law_w_goal", "_law_w_can", "_law_w_done", "_law_w_end", "_law_w_turned", "_law_w_all", "_law_w_swapped", "_law_w_boxes", "_law_w_book", "_law_w_word", "_law_w_way"]
def names2 : List PySem.Str := ["_law_w_stirred", "_law_start", "_law_draw", "_law_pick", "_law_mixed", "_law_same", "_law_each_once", "_law_loose", "_law_spoilt", "_law_is_once", "_law_apart", "_law_met", "_law_ahead_always", "_law_hangs_right", "WayError", "BadBook"]
def names3 : List PySem.Str := ["BadRules", "BadSteps", "BadWay", "BadWord", "Book", "Way", "TURNS"]
def names : List PySem.Str := names0 ++ names1 ++ names2 ++ names3
end K10
namespace K10
open PySem PySem.Spec PyProof.Rows L2 Evl WB
section
variable {P : Program} {w : World} {K : PySem.W.Frag} {mg : Str → Option Value} {base : Heap}
def c_is_word (ds : List PyData) (r : PyData) : Prop := ∃ z : Str, ds = [.str z] ∧ r = .bool (isW z)
theorem cl_is_word (S : Env P w K mg base) : Cl P w K mg base 1 "is_word" ["thing"] (SpD c_is_word) := mk_cl S.fun_is_word S.glo_is_word sc_is_word (fun _ _ _ _ _ _ us hl => match us, hl with | [_], _ => rfl) (SpD.len fun _ _ ⟨_, e, _⟩ => e ▸ rfl) fun cdv A outer s H vs Q E hr h => by
  have nd := sc_is_word.nd
  refine ⟨_, (pss_cons (ps_if (pt_not (pt_val (pe_callB (r := rIsi K) (id := "isinstance") call_isi (by rfl) S.free_isinstance (by decide +kernel) (pa_cons (pv 0) (pa_cons (pe_bltn (v := V.ty "str") (by rfl) S.free_str (by decide +kernel) rfl) pa_nil))))) (pss_one (ps_ret pe_bl)) pss_nil)
    (pss_one (ps_ret (pe_or (pe_cmpR op_eq (pv 0) pe_str (nomark _)) (pe_one (pe_and (pe_bm0K (K := K) rfl PySem.F.plainAttrs_str PySem.F.slot_str_isascii PySem.F.type_str_isascii mt_isascii (pv 0)) (pe_and (pe_bm0K (K := K) rfl PySem.F.plainAttrs_str PySem.F.slot_str_isalpha PySem.F.type_str_isalpha mt_isalpha (pv 0)) (pe_one (pe_bm0K (K := K) rfl PySem.F.plainAttrs_str PySem.F.slot_str_islower PySem.F.type_str_islower mt_islower (pv 0)))))))))), ?_⟩
  obtain ⟨F0, ds, r, e0, hd, hc, hQ⟩ := h
  have kn := Kn.start e0
  obtain ⟨z, rfl, rfl⟩ := hc
  obtain ⟨x, rfl, hx⟩ := da1_ hd
  refine (q_ifF kn (et_not (t_B (d_ss (d_var rfl hx)))) rfl fun F1 H1 s1 => ?_)
  have hx := hx.ex s1.ff
  refine k_fin (Q := Q) hQ s1.kn ?_
  by_cases h0 : z = ""
  · refine (d_or (b := true) (d_eq (d_var rfl hx) d_str) fun e => ?_).is ?_
    · rw [h0] at e
      exact absurd e (by decide)
    · rw [h0, isW_nil, Bool.or_true]
  · have hl : z.length ≠ 0 := fun e => h0 (by
      obtain ⟨cps⟩ := z
      have : cps = #[] := Array.eq_empty_of_size_eq_zero e
      rw [this]
      rfl)
    refine (d_or (d_eq (d_var rfl hx) d_str) fun _ => d_and (d_str0 (f := fun a => .bl (Txt.isascii a)) (d_var rfl hx) rfl) fun _ => d_and (d_str0 (f := fun a => .bl (Txt.isalpha a)) (d_var rfl hx) rfl) fun _ => d_str0 (f := fun a => .bl (Txt.islower a)) (d_var rfl hx) rfl).is ?_
    rw [word_tests z hl, decide_eq_false (fun e => h0 (V.str.inj e)), Bool.false_or]
/-- a whole number, no truth -/
def isInt : PyData → Bool
  | .int _ => true
  | _ => false
def isBl : PyData → Bool
  | .bool _ => true
  | _ => false
def isIntB : PyData → Bool
  | .int _ => true
  | .bool _ => true
  | _ => false
def isNum : PyData → Bool
  | .int i => decide (0 ≤ i)
  | _ => false
theorem int_kit (d : PyData) (hi : isIns d = false) : PySem.W.kitOne K (tyD d) (.type "int") = some (isIntB d) := by
  cases d with
  | dict kvs =>
    cases kvs with
    | nil => exact kit_ty (r := false) (by decide +kernel)
    | cons p r => cases hi
  | none => exact kit_ty (r := false) (by decide +kernel)
  | bool _ => exact kit_ty (r := true) (by decide +kernel)
  | int _ => exact kit_ty (r := true) (by decide +kernel)
  | str _ => exact kit_ty (r := false) (by decide +kernel)
  | list _ => exact kit_ty (r := false) (by decide +kernel)
  | tuple _ => exact kit_ty (r := false) (by decide +kernel)
theorem bool_kit (d : PyData) (hi : isIns d = false) : PySem.W.kitOne K (tyD d) (.type "bool") = some (isBl d) := by
  cases d with
  | dict kvs =>
    cases kvs with
    | nil => exact kit_ty (r := false) (by decide +kernel)
    | cons p r => cases hi
  | none => exact kit_ty (r := false) (by decide +kernel)
  | bool _ => exact kit_ty (r := true) (by decide +kernel)
  | int _ => exact kit_ty (r := false) (by decide +kernel)
  | str _ => exact kit_ty (r := false) (by decide +kernel)
  | list _ => exact kit_ty (r := false) (by decide +kernel)
  | tuple _ => exact kit_ty (r := false) (by decide +kernel)
/-- data whose type is known -/
structure TyN (K : PySem.W.Frag) (d : PyData) : Prop where
  ty : HasTy K d
  i : PySem.W.kitOne K (tyD d) (.type "int") = some (isIntB d)
  b : PySem.W.kitOne K (tyD d) (.type "bool") = some (isBl d)
theorem tyn_of {d : PyData} (h : isIns d = false) : TyN K d := ⟨ty_of h, int_kit d h, bool_kit d h⟩
def c_is_integer (K : PySem.W.Frag) (ds : List PyData) (r : PyData) : Prop := ∃ d, ds = [d] ∧ TyN K d ∧ r = .bool (isInt d)
theorem cl_is_integer (S : Env P w K mg base) : Cl P w K mg base 1 "is_integer" ["thing"] (SpD (c_is_integer K)) := mk_cl S.fun_is_integer S.glo_is_integer sc_is_integer (fun _ _ _ _ _ _ us hl => match us, hl with | [_], _ => rfl) (SpD.len fun _ _ ⟨_, e, _⟩ => e ▸ rfl) fun cdv A outer s H vs Q E hr h => by
  have nd := sc_is_integer.nd
  refine ⟨_, (pss_one (ps_ret (pe_and (pe_callB (r := rIsi K) (id := "isinstance") call_isi (by rfl) S.free_isinstance (by decide +kernel) (pa_cons (pv 0) (pa_cons (pe_bltn (v := V.ty "int") (by rfl) S.free_int (by decide +kernel) rfl) pa_nil))) (pe_one (pe_not (pe_callB (r := rIsi K) (id := "isinstance") call_isi (by rfl) S.free_isinstance (by decide +kernel) (pa_cons (pv 0) (pa_cons (pe_bltn (v := V.ty "bool") (by rfl) S.free_bool (by decide +kernel) rfl) pa_nil)))))))), ?_⟩
  obtain ⟨F0, ds, r, e0, hd, hc, hQ⟩ := h
  have kn := Kn.start e0
  obtain ⟨d, rfl, hi, rfl⟩ := hc
  obtain ⟨x, rfl, hx⟩ := da1_ hd
  refine k_fin (Q := Q) hQ kn ((d_and (d_isi (d_var rfl hx) hi.ty hi.i) fun _ => d_not (d_isi (d_var rfl hx) hi.ty hi.b)).is ?_)
  cases d <;> rfl
def c_is_number (K : PySem.W.Frag) (ds : List PyData) (r : PyData) : Prop := ∃ d, ds = [d] ∧ TyN K d ∧ r = .bool (isNum d)
theorem cl_is_number (S : Env P w K mg base) : Cl P w K mg base 2 "is_number" ["thing"] (SpD (c_is_number K)) := mk_cl S.fun_is_number S.glo_is_number sc_is_number (fun _ _ _ _ _ _ us hl => match us, hl with | [_], _ => rfl) (SpD.len fun _ _ ⟨_, e, _⟩ => e ▸ rfl) fun cdv A outer s H vs Q E hr h => by
  have nd := sc_is_number.nd
  refine ⟨_, (pss_one (ps_ret (pe_and (pe_cl (cl_is_integer S) hr (by decide) pass_none (by rfl) (pa_cons (pv 0) pa_nil)) (pe_one (pe_cmpR op_ge (pv 0) pe_int (nomark _)))))), ?_⟩
  obtain ⟨F0, ds, r, e0, hd, hc, hQ⟩ := h
  have kn := Kn.start e0
  obtain ⟨d, rfl, hi, rfl⟩ := hc
  obtain ⟨x, rfl, hx⟩ := da1_ hd
  by_cases hd' : isInt d = true
  · cases d with
    | int i => exact k_fin (Q := Q) hQ kn ((d_and (d_call (c := c_is_integer K) (da_cons (d_var rfl hx) da_nil) ⟨.int i, rfl, hi, rfl⟩) fun _ => d_cmp (d_var rfl hx) d_int).is (by show PyData.bool (true && decide (0 ≤ i)) = PyData.bool (decide (0 ≤ i)); rw [Bool.true_and]))
    | _ => cases hd'
  · have z : isInt d = false := by cases q : isInt d with
      | true => exact absurd q hd'
      | false => rfl
    refine k_fin (Q := Q) hQ kn ((d_and (a := false) (b := false) (d_call (c := c_is_integer K) (da_cons (d_var rfl hx) da_nil) ⟨d, rfl, hi, by rw [z]⟩) fun z => nomatch z).is ?_)
    cases d with
    | int i => exact absurd rfl hd'
    | _ => rfl
/-- lists, tuples -/
def isRow : PyData → Bool
  | .list _ => true
  | .tuple _ => true
  | _ => false
theorem row_kit (d : PyData) (hi : isIns d = false) : PySem.W.kitAny K (tyD d) [.type "list", .type "tuple"] = some (isRow d) := by
  cases d with
  | dict kvs =>
    cases kvs with
    | nil => exact kitAny_cons (b := false) (kit_ty (by decide +kernel)) (fun _ => kitAny_cons (b := false) (kit_ty (by decide +kernel)) (fun _ => kitAny_nil) (fun z => nomatch z)) (fun z => nomatch z)
    | cons p r => cases hi
  | list ds => exact kitAny_cons (b := true) (kit_ty (by decide +kernel)) (fun z => nomatch z) (fun _ => rfl)
  | tuple ds => exact kitAny_cons (b := false) (kit_ty (by decide +kernel)) (fun _ => kitAny_cons (b := true) (kit_ty (by decide +kernel)) (fun z => nomatch z) (fun _ => rfl)) (fun z => nomatch z)
  | _ => exact kitAny_cons (b := false) (kit_ty (by decide +kernel)) (fun _ => kitAny_cons (b := false) (kit_ty (by decide +kernel)) (fun _ => kitAny_nil) (fun z => nomatch z)) (fun z => nomatch z)
def c_is_row (ds : List PyData) (r : PyData) : Prop := ∃ d, ds = [d] ∧ isIns d = false ∧ r = .bool (isRow d)
theorem cl_is_row (S : Env P w K mg base) : Cl P w K mg base 1 "is_row" ["thing"] (SpD c_is_row) := mk_cl S.fun_is_row S.glo_is_row sc_is_row (fun _ _ _ _ _ _ us hl => match us, hl with | [_], _ => rfl) (SpD.len fun _ _ ⟨_, e, _⟩ => e ▸ rfl) fun cdv A outer s H vs Q E hr h => by
  have nd := sc_is_row.nd
  refine ⟨_, (pss_one (ps_ret (pe_callB (r := rIsiT K) (id := "isinstance") call_isiT (by rfl) S.free_isinstance (by decide +kernel) (pa_cons (pv 0) (pa_cons (pe_tup (pa_cons (pe_bltn (v := V.ty "list") (by rfl) S.free_list (by decide +kernel) rfl) (pa_cons (pe_bltn (v := V.ty "tuple") (by rfl) S.free_tuple (by decide +kernel) rfl) pa_nil))) pa_nil))))), ?_⟩
  obtain ⟨F0, ds, r, e0, hd, hc, hQ⟩ := h
  have kn := Kn.start e0
  obtain ⟨d, rfl, hi, rfl⟩ := hc
  obtain ⟨x, rfl, hx⟩ := da1_ hd
  exact k_fin (Q := Q) hQ kn (d_isiT2 (d_var rfl hx) (ty_of hi) (row_kit d hi))
theorem row_is (k : Bool) (ds : List PyData) : isRow (rwD k ds) = true ∧ isIns (rwD k ds) = false := by
  cases k <;> exact ⟨rfl, rfl⟩
theorem d_isrow {σ : L2.St} {F : Hp} {te : TE} {k : Bool} {ds : List PyData} {E : XK} (h : EvD te σ F (rwD k ds)) : EvD (tCall (SpD c_is_row) [] E (tCons te tNil)) σ F (.bool true) :=
  d_call (da_cons h da_nil) ⟨_, rfl, (row_is k ds).2, by rw [(row_is k ds).1]⟩
theorem num_nat (n : Nat) : isNum (.int (n : Nat)) = true := decide_eq_true (Int.natCast_nonneg n)
def c_is_step (ds : List PyData) (r : PyData) : Prop := ∃ (k : Bool) (s : WStep), ds = [lstD k s] ∧ r = .bool true
theorem cl_is_step (S : Env P w K mg base) : Cl P w K mg base 3 "is_step" ["thing"] (SpD c_is_step) := mk_cl S.fun_is_step S.glo_is_step sc_is_step (fun _ _ _ _ _ _ us hl => match us, hl with | [_], _ => rfl) (SpD.len fun _ _ ⟨_, _, e, _⟩ => e ▸ rfl) fun cdv A outer s H vs Q E hr h => by
  have nd := sc_is_step.nd
  refine ⟨_, (pss_cons (ps_if (PW.pt (pw_or (pt_not (pt_val (pe_cl (cl_is_row S) hr (by decide) pass_none (by rfl) (pa_cons (pv 0) pa_nil)))) (pw_or1 (pt_cmpR op_ne (pe_callB (r := rLenA K) (id := "len") call_len_any (by rfl) S.free_len (by decide +kernel) (pa_cons (pv 0) pa_nil)) pe_int (nomark _))))) (pss_one (ps_ret pe_bl)) pss_nil)
    (pss_cons (ps_asg (pv 0) (pg_any (K := K) (n := 3) rfl rfl (pgs_cons (pg_name (i := 1) nd rfl (by first | exact Or.inl rfl | exact Or.inr rfl)) (pgs_cons (pg_name (i := 2) nd rfl (by first | exact Or.inl rfl | exact Or.inr rfl)) (pgs_cons (pg_name (i := 3) nd rfl (by first | exact Or.inl rfl | exact Or.inr rfl)) pgs_nil)))))
    (pss_one (ps_ret (pe_and (pe_cl (cl_is_number S) hr (by decide) pass_none (by rfl) (pa_cons (pv 1) pa_nil)) (pe_and (pe_cl (cl_is_number S) hr (by decide) pass_none (by rfl) (pa_cons (pv 2) pa_nil)) (pe_one (pe_cmpR (r := rIn K false) op_in_seq (pv 3) (pe_glob (v := V.ref (He.ga K "TURNS")) (by rfl) S.glo_TURNS rfl) (by rfl))))))))), ?_⟩
  obtain ⟨F0, ds, r, e0, hd, hc, hQ⟩ := h
  have kn := Kn.start e0
  obtain ⟨k, ⟨p, n, b⟩, rfl, rfl⟩ := hc
  obtain ⟨x, rfl, hx⟩ := da1_ hd
  refine q_ifF kn (et_or (et_not (t_B (d_isrow (d_var rfl hx)))) fun _ => t_val (d_ne (d_lenRw (d_var rfl hx)) d_int)) rfl fun F1 H1 s1 => ?_
  have hx := hx.ex s1.ff
  refine q_unpA3 s1.kn (d_var rfl hx) fun v1 v2 v3 F2 H2 s2 h1 h2 h3 => ?_
  refine k_fin (Q := Q) hQ s2.kn ((d_and (d_call (c := c_is_number K) (da_cons (d_var rfl h1) da_nil) ⟨_, rfl, tyn_of rfl, rfl⟩) fun _ => d_and (d_call (c := c_is_number K) (da_cons (d_var rfl h2) da_nil) ⟨_, rfl, tyn_of rfl, rfl⟩) fun _ => d_inK (d_var rfl h3) rfl rfl rfl (S.con_TURNS)).is ?_)
  rw [num_nat p, num_nat n]
  cases b <;> rfl
def c_sides (ds : List PyData) (r : PyData) : Prop := ∃ (rs : List Rule) (k : Bool) (s : WStep) (q : Rule), ds = [rulesD rs, lstD k s] ∧ rs[s.2.1]? = some q ∧ r = .tuple [.str (src q s.2.2), .str (gol q s.2.2)]
theorem cl_sides (S : Env P w K mg base) : Cl P w K mg base 1 "sides" ["rules", "step"] (SpD c_sides) := mk_cl S.fun_sides S.glo_sides sc_sides (fun _ _ _ _ _ _ us hl => match us, hl with | [_, _], _ => rfl) (SpD.len fun _ _ ⟨_, _, _, _, e, _⟩ => e ▸ rfl) fun cdv A outer s H vs Q E hr h => by
  have nd := sc_sides.nd
  refine ⟨_, (pss_cons (ps_asg (pe_ix (r := rIxL K) ix_list (pv 0) (pe_ix (r := rIxA K) ix_any (pv 1) pe_int (fun _ _ => rfl)) (fun _ _ => rfl)) (pg_tupK (K := K) (n := 2) rfl rfl (pgs_cons (pg_name (i := 2) nd rfl (by first | exact Or.inl rfl | exact Or.inr rfl)) (pgs_cons (pg_name (i := 3) nd rfl (by first | exact Or.inl rfl | exact Or.inr rfl)) pgs_nil))))
    (pss_cons (ps_if (pt_cmpR op_eq (pe_ix (r := rIxA K) ix_any (pv 1) pe_int (fun _ _ => rfl)) pe_str (nomark _)) (pss_one (ps_ret (pe_tup (pa_cons (pv 2) (pa_cons (pv 3) pa_nil))))) pss_nil)
    (pss_one (ps_ret (pe_tup (pa_cons (pv 3) (pa_cons (pv 2) pa_nil))))))), ?_⟩
  obtain ⟨F0, ds, r, e0, hd, hc, hQ⟩ := h
  have kn := Kn.start e0
  obtain ⟨rs, k, ⟨p, n, b⟩, q, rfl, hq, rfl⟩ := hc
  obtain ⟨x, y, rfl, hx, hy⟩ := da2_ hd
  refine (q_unp2 kn (d_rrul (d_var rfl hx) (d_var rfl hy) hq) fun v1 v2 F1 H1 s1 h1 h2 => ?_)
  have hy := hy.ex s1.ff
  refine (q_if s1.kn (t_ronA (d_var rfl hy)) (fun e F2 H2 s2 => ?_) fun e F2 H2 s2 => ?_)
  · cases e
    exact k_fin (Q := Q) hQ s2.kn (d_tup (da_cons (d_var rfl (h1.ex s2.ff)) (da_cons (d_var rfl (h2.ex s2.ff)) da_nil)))
  · cases e
    exact k_fin (Q := Q) hQ s2.kn (d_tup (da_cons (d_var rfl (h2.ex s2.ff)) (da_cons (d_var rfl (h1.ex s2.ff)) da_nil)))
/-- a word, rules, a step: of lengths that go -/
def c_can (ds : List PyData) (r : PyData) : Prop := ∃ (rs : List Rule) (z : Str) (k : Bool) (s : WStep) (q : Rule), ds = [rulesD rs, .str z, lstD k s] ∧ z.length ≤ 100000 ∧ (src q s.2.2).length ≤ 1000 ∧ rs[s.2.1]? = some q ∧ r = .bool (canR q z s)
theorem cl_can_do (S : Env P w K mg base) : Cl P w K mg base 4 "can_do" ["rules", "word", "thing"] (SpD c_can) := mk_cl S.fun_can_do S.glo_can_do sc_can_do (fun _ _ _ _ _ _ us hl => match us, hl with | [_, _, _], _ => rfl) (SpD.len fun _ _ ⟨_, _, _, _, _, e, _⟩ => e ▸ rfl) fun cdv A outer s H vs Q E hr h => by
  have nd := sc_can_do.nd
  refine ⟨_, (pss_cons (ps_if (PW.pt (pw_or (pt_not (pt_val (pe_cl (cl_is_step S) hr (by decide) pass_none (by rfl) (pa_cons (pv 2) pa_nil)))) (pw_or1 (pt_cmpR op_ge (pe_ix (r := rIxA K) ix_any (pv 2) pe_int (fun _ _ => rfl)) (pe_callB (r := rLenQ K) (id := "len") call_len_seq (by rfl) S.free_len (by decide +kernel) (pa_cons (pv 0) pa_nil)) (nomark _))))) (pss_one (ps_ret pe_bl)) pss_nil)
    (pss_cons (ps_set (i := 3) nd rfl (by first | exact Or.inl rfl | exact Or.inr rfl) (pe_ix (r := rIxA K) ix_any (pv 2) pe_int (fun _ _ => rfl)))
    (pss_cons (ps_asg (pe_cl (cl_sides S) hr (by decide) pass_none (by rfl) (pa_cons (pv 0) (pa_cons (pv 2) pa_nil))) (pg_tupK (K := K) (n := 2) rfl rfl (pgs_cons (pg_name (i := 4) nd rfl (by first | exact Or.inl rfl | exact Or.inr rfl)) (pgs_cons (pg_name (i := 5) nd rfl (by first | exact Or.inl rfl | exact Or.inr rfl)) pgs_nil))))
    (pss_one (ps_ret (pe_cmpR op_eq (pe_slice (r := rSlS) sl_str (pv 1) (po_some (pv 3)) (po_some (pe_op op_add (pv 3) (pe_callB (r := rLenSQ) (id := "len") call_len_str (by rfl) S.free_len (by decide +kernel) (pa_cons (pv 4) pa_nil))))) (pv 4) (nomark _))))))), ?_⟩
  obtain ⟨F0, ds, r, e0, hd, hc, hQ⟩ := h
  have kn := Kn.start e0
  obtain ⟨rs, z, k, ⟨p, n, b⟩, q, rfl, hz, hl, hq, rfl⟩ := hc
  obtain ⟨x, y, u, rfl, hx, hy, hu⟩ := da3_ hd
  have hlt : n < rs.length := (List.getElem?_eq_some_iff.mp hq).1
  refine q_ifF kn (et_or (et_not (t_B (d_call (c := c_is_step) (da_cons (d_var rfl hu) da_nil) ⟨_, _, rfl, rfl⟩))) fun _ => t_val (d_cmp (d_rst1 (d_var rfl hu)) (d_lenL (d_var rfl hx)))) ?_ fun F1 H1 s1 => ?_
  · rw [List.length_map]
    show (false || decide ((rs.length : Int) ≤ (n : Nat))) = false
    rw [decide_eq_false (by omega)]
    rfl
  refine q_asg s1.kn (d_rst0 (d_var rfl (hu.ex s1.ff))) fun v F2 H2 s2 hv => ?_
  have t2 := s1.trans s2
  refine q_unp2 s2.kn (d_call (c := c_sides) (da_cons (d_var rfl (hx.ex t2.ff)) (da_cons (d_var rfl (hu.ex t2.ff)) da_nil)) ⟨_, _, _, _, rfl, hq, rfl⟩) fun v1 v2 F3 H3 s3 h1 h2 => ?_
  have t3 := t2.trans s3
  exact k_fin (Q := Q) hQ s3.kn (d_eq (d_slS (d_var rfl (hy.ex t3.ff)) (do_some (d_var rfl (hv.ex s3.ff))) (do_some (d_add (d_var rfl (hv.ex s3.ff)) (d_lenS (d_var rfl h1) (szS (by omega))))) (szS hz)) (d_var rfl h1))
end
end K10
namespace K10
open PySem PySem.Spec PyProof.Rows L2 Evl WB
section
variable {P : Program} {w : World} {K : PySem.W.Frag} {mg : Str → Option Value} {base : Heap}
def c_need_word (ds : List PyData) (r : PyData) : Prop := ∃ z : Str, ds = [.str z] ∧ isW z = true ∧ r = .none
theorem cl_need_word (S : Env P w K mg base) : Cl P w K mg base 3 "need_word" ["thing"] (SpD c_need_word) := mk_cl S.fun_need_word S.glo_need_word sc_need_word (fun _ _ _ _ _ _ us hl => match us, hl with | [_], _ => rfl) (SpD.len fun _ _ ⟨_, e, _⟩ => e ▸ rfl) fun cdv A outer s H vs Q E hr h => by
  have nd := sc_need_word.nd
  refine ⟨_, (pss_one (ps_if (pt_not (pt_val (pe_cl (cl_is_word S) hr (by decide) (passes_call (takes_of rfl rfl rfl rfl) fun _ _ _ _ h => h) (by rfl) (pa_cons (pv 0) pa_nil)))) (pss_one (ps_raise1 (er_BadWord S) hr (by decide) rfl (takes_of rfl rfl rfl rfl) (by rfl) (pv 0))) pss_nil)), ?_⟩
  obtain ⟨F0, ds, r, e0, hd, hc, hQ⟩ := h
  have kn := Kn.start e0
  obtain ⟨z, rfl, hw, rfl⟩ := hc
  obtain ⟨x, rfl, hx⟩ := da1_ hd
  refine k_ifF kn (et_not (t_B (d_call (da_cons (d_var rfl hx) da_nil) ⟨_, rfl, rfl⟩))) (by rw [hw]; rfl) fun F1 H1 s1 => ?_
  exact k_done hQ s1.kn .non
def c_behind (ds : List PyData) (r : PyData) : Prop := ∃ (rs : List Rule) (z : Str) (k : Bool) (s : WStep) (q : Rule), ds = [rulesD rs, .str z, lstD k s] ∧ z.length ≤ 100000 ∧ (src q s.2.2).length ≤ 1000 ∧ (gol q s.2.2).length ≤ 1000 ∧ rs[s.2.1]? = some q ∧ r = .str (doneR q z s)
theorem cl_word_behind (S : Env P w K mg base) : Cl P w K mg base 2 "word_behind" ["rules", "word", "step"] (SpD c_behind) := mk_cl S.fun_word_behind S.glo_word_behind sc_word_behind (fun _ _ _ _ _ _ us hl => match us, hl with | [_, _, _], _ => rfl) (SpD.len fun _ _ ⟨_, _, _, _, _, e, _⟩ => e ▸ rfl) fun cdv A outer s H vs Q E hr h => by
  have nd := sc_word_behind.nd
  refine ⟨_, (pss_cons (ps_asg (pe_cl (cl_sides S) hr (by decide) pass_none (by rfl) (pa_cons (pv 0) (pa_cons (pv 2) pa_nil))) (pg_tupK (K := K) (n := 2) rfl rfl (pgs_cons (pg_name (i := 3) nd rfl (by first | exact Or.inl rfl | exact Or.inr rfl)) (pgs_cons (pg_name (i := 4) nd rfl (by first | exact Or.inl rfl | exact Or.inr rfl)) pgs_nil))))
    (pss_cons (ps_set (i := 5) nd rfl (by first | exact Or.inl rfl | exact Or.inr rfl) (pe_ix (r := rIxA K) ix_any (pv 2) pe_int (fun _ _ => rfl)))
    (pss_one (ps_ret (pe_op op_add_str (pe_op op_add_str (pe_slice (r := rSlS) sl_str (pv 1) po_none (po_some (pv 5))) (pv 4)) (pe_slice (r := rSlS) sl_str (pv 1) (po_some (pe_op op_add (pv 5) (pe_callB (r := rLenSQ) (id := "len") call_len_str (by rfl) S.free_len (by decide +kernel) (pa_cons (pv 3) pa_nil)))) po_none)))))), ?_⟩
  obtain ⟨F0, ds, r, e0, hd, hc, hQ⟩ := h
  have kn := Kn.start e0
  obtain ⟨rs, z, k, ⟨p, n, b⟩, q, rfl, hz, hl, hg, hq, rfl⟩ := hc
  obtain ⟨x, y, u, rfl, hx, hy, hu⟩ := da3_ hd
  refine q_unp2 kn (d_call (c := c_sides) (da_cons (d_var rfl hx) (da_cons (d_var rfl hu) da_nil)) ⟨_, _, _, _, rfl, hq, rfl⟩) fun v1 v2 F1 H1 s1 h1 h2 => ?_
  refine q_asg s1.kn (d_rst0 (d_var rfl (hu.ex s1.ff))) fun v F2 H2 s2 hv => ?_
  have t2 := s1.trans s2
  have c1 := cutS_len_le z none (some ((p : Nat) : Int)) hz
  have c2 := cutS_len_le z (some ((p : Nat) + ((src q b).length : Nat) : Int)) none hz
  have hg' : (gol q b).length ≤ 1000 := hg
  refine k_fin (Q := Q) hQ s2.kn (d_cat (d_cat (d_slS (d_var rfl (hy.ex t2.ff)) do_none (do_some (d_var rfl hv)) (szS hz)) (d_var rfl (h2.ex s2.ff)) ?_) (d_slS (d_var rfl (hy.ex t2.ff)) (do_some (d_add (d_var rfl hv) (d_lenS (d_var rfl (h1.ex s2.ff)) (szS (by have hl' : (src q b).length ≤ 1000 := hl; exact Nat.le_trans hl' (by decide)))))) do_none (szS hz)) ?_)
  · exact Nat.le_trans (Nat.add_le_add c1 hg') (by decide)
  · rw [app_len]
    exact Nat.le_trans (Nat.add_le_add (Nat.add_le_add c1 hg') c2) (by decide)
def c_is_rule (ds : List PyData) (r : PyData) : Prop := ∃ (k : Bool) (q : Rule), ds = [lruD k q] ∧ RuOk q ∧ r = .bool true
theorem ne_nil {z : Str} (h : z.length ≠ 0) : (!decide (V.str z = V.str "")) = true := by
  rw [decide_eq_false fun e => h (by rw [V.str.inj e]; rfl)]
  rfl
theorem cl_is_rule (S : Env P w K mg base) : Cl P w K mg base 2 "is_rule" ["thing"] (SpD c_is_rule) := mk_cl S.fun_is_rule S.glo_is_rule sc_is_rule (fun _ _ _ _ _ _ us hl => match us, hl with | [_], _ => rfl) (SpD.len fun _ _ ⟨_, _, e, _⟩ => e ▸ rfl) fun cdv A outer s H vs Q E hr h => by
  have nd := sc_is_rule.nd
  refine ⟨_, (pss_cons (ps_if (PW.pt (pw_or (pt_not (pt_val (pe_cl (cl_is_row S) hr (by decide) pass_none (by rfl) (pa_cons (pv 0) pa_nil)))) (pw_or1 (pt_cmpR op_ne (pe_callB (r := rLenA K) (id := "len") call_len_any (by rfl) S.free_len (by decide +kernel) (pa_cons (pv 0) pa_nil)) pe_int (nomark _))))) (pss_one (ps_ret pe_bl)) pss_nil)
    (pss_cons (ps_asg (pv 0) (pg_any (K := K) (n := 2) rfl rfl (pgs_cons (pg_name (i := 1) nd rfl (by first | exact Or.inl rfl | exact Or.inr rfl)) (pgs_cons (pg_name (i := 2) nd rfl (by first | exact Or.inl rfl | exact Or.inr rfl)) pgs_nil))))
    (pss_one (ps_ret (pe_and (pe_cl (cl_is_word S) hr (by decide) pass_none (by rfl) (pa_cons (pv 1) pa_nil)) (pe_and (pe_cl (cl_is_word S) hr (by decide) pass_none (by rfl) (pa_cons (pv 2) pa_nil)) (pe_and (pe_cmpR op_ne (pv 1) pe_str (nomark _)) (pe_one (pe_cmpR op_ne (pv 2) pe_str (nomark _)))))))))), ?_⟩
  obtain ⟨F0, ds, r, e0, hd, hc, hQ⟩ := h
  have kn := Kn.start e0
  obtain ⟨k, ⟨l, r⟩, rfl, ok, rfl⟩ := hc
  obtain ⟨x, rfl, hx⟩ := da1_ hd
  refine q_ifF kn (et_or (et_not (t_B (d_isrow (d_var rfl hx)))) fun _ => t_val (d_ne (d_lenRw (d_var rfl hx)) d_int)) rfl fun F1 H1 s1 => ?_
  refine q_unpA2 s1.kn (d_var rfl (hx.ex s1.ff)) fun v1 v2 F2 H2 s2 h1 h2 => ?_
  refine k_fin (Q := Q) hQ s2.kn ((d_and (d_call (da_cons (d_var rfl h1) da_nil) ⟨_, rfl, rfl⟩) fun _ => d_and (d_call (da_cons (d_var rfl h2) da_nil) ⟨_, rfl, rfl⟩) fun _ => d_and (d_ne (d_var rfl h1) d_str) fun _ => d_ne (d_var rfl h2) d_str).is ?_)
  rw [ok.w1, ok.w2, ne_nil ok.n1, ne_nil ok.n2]
  rfl
abbrev BkArgs : List Rule → Hp → List V → Prop := fun rs H vs => BkOk rs ∧ ∃ v d, vs = [v] ∧ Dt H v d ∧ LoRs d rs
theorem mc_Book (S : Env P w K mg base) : Mc P w K mg base 4 "Book" (He.ga K "Book") ["self", "rules"] (spNew (He.ga K "Book") BkArgs (BookAt (He.ga K "Book"))) := mk_mc S.fun_Book___init__ S.mkr_Book S.glo_Book sc_Book___init__ (fun _ _ _ _ _ _ us hl => match us, hl with | [_, _], _ => rfl) (fun vs H Q E ⟨_, _, _, _, _, e, _, _, _, ⟨_, _, _, e2, _⟩, _⟩ => by rw [e, e2]; rfl) fun cdv A outer s H vs Q E hr h => by
  have nd := sc_Book___init__.nd
  refine ⟨_, (pss_cons (ps_if (pt_not (pt_val (pe_cl (cl_is_row S) hr (by decide) (passes_call (takes_of rfl rfl rfl rfl) fun _ _ _ _ h => h) (by rfl) (pa_cons (pv 1) pa_nil)))) (pss_one (ps_raise1 (er_BadRules S) hr (by decide) rfl (takes_of rfl rfl rfl rfl) (by rfl) pe_int)) pss_nil)
    (pss_cons (ps_for (passes_of rfl) rfl (pi_enA (K := K) rfl rfl S.free_enumerate (pa_cons (pv 1) pa_nil)) (pg_tupK (K := K) (n := 2) rfl rfl (pgs_cons (pg_name (i := 2) nd rfl (by first | exact Or.inl rfl | exact Or.inr rfl)) (pgs_cons (pg_name (i := 3) nd rfl (by first | exact Or.inl rfl | exact Or.inr rfl)) pgs_nil)))
    (pss_one (ps_if (pt_not (pt_val (pe_cl (cl_is_rule S) hr (by decide) (passes_call (takes_of rfl rfl rfl rfl) fun _ _ _ _ h => h) (by rfl) (pa_cons (pv 3) pa_nil)))) (pss_one (ps_raise1 (er_BadRules S) hr (by decide) rfl (takes_of rfl rfl rfl rfl) (by rfl) (pv 2))) pss_nil)))
    (pss_one (ps_fld (pv 0) (pe_lc (own := [("rule", 3)]) rfl nd (pi_anyK (K := K) rfl (pv 1)) (blkOk_by (N := ["self", "rules", "index", "rule"]) (sc := defScope s_Book___init__) (by decide +kernel)) (fun _ _ _ _ _ => (pg_name (i := 3) nd rfl (by first | exact Or.inl rfl | exact Or.inr rfl))) (fun _ _ _ _ _ => pts_nil) (fun _ _ _ _ _ => (pe_callTy (r := rTupQ K) (T := "tuple") call_tuple_of (by rfl) S.free_tuple (by decide +kernel) (pa_cons (pv 3) pa_nil)))) rfl)))), ?_⟩
  obtain ⟨F0, rs, a, dx, _, rfl, ha, hFa, e0, ⟨ok, x, _, rfl, hx, k, ds, rfl, hds⟩, hQ⟩ := h
  have kn := Kn.init e0 hFa ha
  have dl := hds.len
  refine q_ifF kn (et_not (t_B (d_isrow (d_var rfl hx)))) rfl fun F1 H1 s1 => ?_
  have hx1 := hx.ex s1.ff
  refine q_for s1.kn (wk_enRw (da_cons (d_var rfl hx1) da_nil)) (fun i σ' F' H' => (∃ y z, σ' = [some (.ref a), some x, y, z]) ∧ Dt F' x (rwD k ds) ∧ H' a = some (.ins (He.ga K "Book") dx [])) ?_ ?_ ?_ ?_
  · intro F2 H2 s2
    exact ⟨⟨_, _, rfl⟩, hx1.ex s2.ff, s2.ex _ _ (s1.ex _ _ ha)⟩
  · rintro i σ' F' H' H2 ⟨hσ, hx', ha'⟩ kn' e
    exact ⟨hσ, hx'.ex (kn'.step e).ff, e _ _ ha'⟩
  · rintro i d y σ' F' H' hi kn' eF hd ⟨⟨y1, z1, rfl⟩, hx', ha'⟩ N hN
    have hl : i < rs.length := by
      have z := (List.getElem?_eq_some_iff.mp hi).1
      rw [enumD_len, dl] at z
      exact z
    have hr : rs[i]? = some rs[i] := List.getElem?_eq_getElem hl
    obtain ⟨_, h1, j, rfl⟩ := hds.get hr
    rw [enumD_get h1] at hi
    cases hi
    refine gt2 hd kn'.fh fun v1 v2 h1 h2 => ?_
    refine k_ifF kn' (et_not (t_B (d_call (c := c_is_rule) (da_cons (d_var rfl h2) da_nil) ⟨_, _, rfl, ok.at_ hr, rfl⟩))) rfl fun F3 H3 s3 => ?_
    exact hN _ _ _ s3.kn s3.ff ⟨⟨_, _, rfl⟩, hx'.ex s3.ff, s3.ex _ _ ha'⟩
  · rintro σ' F' H' kn' eF ⟨⟨y1, z1, rfl⟩, hx', ha'⟩
    refine k_fld kn' S.cls_Book S.noat_Book__rules rfl ha' (by decide) (ev_var rfl) (EvD.toP (d := rulesD rs) ?_) (mo_dt _) fun y F4 H4 kn4 e4 hy h4 _ => ?_
    · refine d_lcm (wk_rw (d_var rfl hx')) (by rw [dl]; exact Nat.le_trans ok.n (by decide)) (by rw [dl, List.length_map]) fun i d r v F'' H'' hi hr _ _ hd Q hQ' => hQ' _ rfl ?_
      obtain ⟨q, hq, rfl⟩ := map_at hr
      obtain ⟨_, h1, j, rfl⟩ := hds.get hq
      rw [hi] at h1
      cases h1
      exact d_tupRw (d_var rfl hd)
    · obtain ⟨l, xs, rfl, h5, h6⟩ := hy.list_
      obtain ⟨b1, b2⟩ := kn4.born h4
      exact hQ H4 b1 ⟨a, dx, l, rfl, b2 _ _ upd_same, (hy.ex (ex_know (kn4.md a rfl))).ex b2⟩
end
end K10
namespace K10
open PySem PySem.Spec PyProof.Rows L2 Evl WB
section
variable {P : Program} {w : World} {K : PySem.W.Frag} {mg : Str → Option Value} {base : Heap}
abbrev CB (K : PySem.W.Frag) : Addr := He.ga K "Book"
abbrev CW (K : PySem.W.Frag) : Addr := He.ga K "Way"
/-- one argument, a Book of these rules -/
abbrev ABk (K : PySem.W.Frag) : List Rule → Hp → List V → Prop := fun rs H vs => ∃ v, vs = [v] ∧ BookAt (CB K) rs H v
abbrev RNon {α : Type} : α → Hp → V → Prop := fun _ H v => Dt H v .none
theorem bk_ty (S : Env P w K mg base) {rs : List Rule} (G : Hp) (v : V) (h : BookAt (CB K) rs G v) : TyX K G v (.ref (CB K)) := by
  obtain ⟨a, dx, l, rfl, h1, _⟩ := h
  exact S.ins_Book h1
theorem wy_ty (S : Env P w K mg base) {m : WayM} (G : Hp) (v : V) (h : WayAt (CB K) (CW K) m G v) : TyX K G v (.ref (CW K)) := by
  obtain ⟨a, dx, b, l1, l2, rfl, h1, _⟩ := h
  exact S.ins_Way h1
theorem mt_Book_rules (S : Env P w K mg base) : Mt P w K mg base 1 (He.ga K "Book") "rules" ["self"] (SpP (ABk K) fun rs H v => Dt H v (rulesD rs)) := mk_mt S.fun_Book_rules S.cls_Book S.meth_Book_rules sc_Book_rules (fun _ _ _ _ _ _ us hl => match us, hl with | [_], _ => rfl) (fun vs H Q E ⟨_, _, _, ⟨_, e, _⟩, _⟩ => by rw [e]; rfl) fun cdv A outer s H vs Q E hr h => by
  have nd := sc_Book_rules.nd
  refine ⟨_, (pss_one (ps_ret (pe_callTy (r := rListQ K) (T := "list") call_list_of (by rfl) S.free_list (by decide +kernel) (pa_cons (pe_fldK (K := K) rfl (pv 0)) pa_nil)))), ?_⟩
  obtain ⟨F0, rs, e0, ⟨x, rfl, hx⟩, hQ⟩ := h
  have kn := Kn.start e0
  refine kp_fin hQ (mo_dt _) kn (d_listL (EvP.toD (p_fld S.cls_Book S.noat_Book__rules (p_var rfl hx (BookAt.mo _ _)) fun G v ⟨a, dx, l, e1, e2, e3⟩ => ⟨a, dx, _, _, e1, e2, rfl, e3⟩)))
theorem cl_need_book (S : Env P w K mg base) : Cl P w K mg base 3 "need_book" ["thing"] (SpP (ABk K) RNon) := mk_cl S.fun_need_book S.glo_need_book sc_need_book (fun _ _ _ _ _ _ us hl => match us, hl with | [_], _ => rfl) (fun vs H Q E ⟨_, _, _, ⟨_, e, _⟩, _⟩ => by rw [e]; rfl) fun cdv A outer s H vs Q E hr h => by
  have nd := sc_need_book.nd
  refine ⟨_, (pss_one (ps_if (pt_not (pt_val (pe_callB (r := rIsi K) (id := "isinstance") call_isi (by rfl) S.free_isinstance (by decide +kernel) (pa_cons (pv 0) (pa_cons (pe_glob (v := V.ref (He.ga K "Book")) (by rfl) S.glo_Book rfl) pa_nil))))) (pss_one (ps_raise1 (er_BadBook S) hr (by decide) rfl (takes_of rfl rfl rfl rfl) (by rfl) (pv 0))) pss_nil)), ?_⟩
  obtain ⟨F0, rs, e0, ⟨x, rfl, hx⟩, hQ⟩ := h
  have kn := Kn.start e0
  refine k_ifF kn (et_not (t_B (p_isiO (p_var rfl hx (BookAt.mo _ _)) (bk_ty S) (BookAt.mo _ _) S.kit_Book_Book))) rfl fun F1 H1 s1 => ?_
  exact hQ _ _ s1.kn.hh .non
abbrev AWn (K : PySem.W.Frag) : WayM → Hp → List V → Prop := fun m H vs => m.Ok ∧ ∃ b z t d, vs = [b, z, t] ∧ BookAt (CB K) m.rs H b ∧ Dt H z (.str m.z) ∧ Dt H t d ∧ LoSs d m.ss
theorem mc_Way (S : Env P w K mg base) : Mc P w K mg base 5 "Way" (He.ga K "Way") ["self", "book", "word", "steps"] (spNew (CW K) (AWn K) (WayAt (CB K) (CW K))) := mk_mc S.fun_Way___init__ S.mkr_Way S.glo_Way sc_Way___init__ (fun _ _ _ _ _ _ us hl => match us, hl with | [_, _, _, _], _ => rfl) (fun vs H Q E ⟨_, _, _, _, _, e, _, _, _, ⟨_, _, _, _, _, e2, _⟩, _⟩ => by rw [e, e2]; rfl) fun cdv A outer s H vs Q E hr h => by
  have nd := sc_Way___init__.nd
  refine ⟨_, (pss_cons (ps_expr (pe_cl (cl_need_book S) hr (by decide) (passes_call (takes_of rfl rfl rfl rfl) fun _ _ _ _ h => h) (by rfl) (pa_cons (pv 1) pa_nil)))
    (pss_cons (ps_expr (pe_cl (cl_need_word S) hr (by decide) (passes_call (takes_of rfl rfl rfl rfl) fun _ _ _ _ h => h) (by rfl) (pa_cons (pv 2) pa_nil)))
    (pss_cons (ps_if (pt_not (pt_val (pe_cl (cl_is_row S) hr (by decide) (passes_call (takes_of rfl rfl rfl rfl) fun _ _ _ _ h => h) (by rfl) (pa_cons (pv 3) pa_nil)))) (pss_one (ps_raise1 (er_BadSteps S) hr (by decide) rfl (takes_of rfl rfl rfl rfl) (by rfl) pe_int)) pss_nil)
    (pss_cons (ps_set (i := 4) nd rfl (by first | exact Or.inl rfl | exact Or.inr rfl) (pe_mt0 (mt_Book_rules S) hr (by decide) (passes_call (takes_of rfl rfl rfl rfl) fun _ _ _ _ h => h) (pv 1)))
    (pss_cons (ps_set (i := 5) nd rfl (by first | exact Or.inl rfl | exact Or.inr rfl) (pe_lst (pa_cons (pv 2) pa_nil)))
    (pss_cons (ps_for (passes_of rfl) rfl (pi_enA (K := K) rfl rfl S.free_enumerate (pa_cons (pv 3) pa_nil)) (pg_tupK (K := K) (n := 2) rfl rfl (pgs_cons (pg_name (i := 6) nd rfl (by first | exact Or.inl rfl | exact Or.inr rfl)) (pgs_cons (pg_name (i := 7) nd rfl (by first | exact Or.inl rfl | exact Or.inr rfl)) pgs_nil)))
    (pss_cons (ps_if (pt_not (pt_val (pe_cl (cl_can_do S) hr (by decide) (passes_call (takes_of rfl rfl rfl rfl) fun _ _ _ _ h => h) (by rfl) (pa_cons (pv 4) (pa_cons (pe_ix (r := rIxL K) ix_list (pv 5) (pv 6) (fun _ _ => rfl)) (pa_cons (pv 7) pa_nil)))))) (pss_one (ps_raise1 (er_BadSteps S) hr (by decide) rfl (takes_of rfl rfl rfl rfl) (by rfl) (pv 6))) pss_nil)
    (pss_one (ps_expr (pe_bmK (K := K) (r := rAppend) rfl PySem.F.plainAttrs_list PySem.F.slot_list_append PySem.F.type_list_append mt_append (pv 5) (pa_cons (pe_cl (cl_word_behind S) hr (by decide) (passes_call (takes_of rfl rfl rfl rfl) fun _ _ _ _ h => h) (by rfl) (pa_cons (pv 4) (pa_cons (pe_ix (r := rIxL K) ix_list (pv 5) (pv 6) (fun _ _ => rfl)) (pa_cons (pv 7) pa_nil)))) pa_nil))))))
    (pss_cons (ps_fld (pv 0) (pv 1) rfl)
    (pss_cons (ps_fld (pv 0) (pv 2) rfl)
    (pss_cons (ps_fld (pv 0) (pv 5) rfl)
    (pss_one (ps_fld (pv 0) (pe_lc (own := [("step", 7)]) rfl nd (pi_anyK (K := K) rfl (pv 3)) (blkOk_by (N := ["self", "book", "word", "steps", "rules", "words", "index", "step"]) (sc := defScope s_Way___init__) (by decide +kernel)) (fun _ _ _ _ _ => (pg_name (i := 7) nd rfl (by first | exact Or.inl rfl | exact Or.inr rfl))) (fun _ _ _ _ _ => pts_nil) (fun _ _ _ _ _ => (pe_callTy (r := rTupQ K) (T := "tuple") call_tuple_of (by rfl) S.free_tuple (by decide +kernel) (pa_cons (pv 7) pa_nil)))) rfl))))))))))), ?_⟩
  obtain ⟨F0, m, a, dx, _, rfl, ha, hFa, e0, ⟨ok, b, z, t, _, rfl, hb, hz, ht, kr, ds, rfl, hds⟩, hQ⟩ := h
  have dsl := hds.len
  have kn := Kn.init e0 hFa ha
  refine qp_drop kn (p_call m.rs (pa_cons1 (p_var rfl hb (BookAt.mo _ _)) (BookAt.mo _ _)) (mo_dt _)) fun F1 H1 s1 => ?_
  refine q_drop s1.kn (d_call (da_cons (d_var rfl (hz.ex s1.ff)) da_nil) ⟨_, rfl, ok.w, rfl⟩) fun F2 H2 s2 => ?_
  have t2 := s1.trans s2
  refine q_ifF s2.kn (et_not (t_B (d_isrow (d_var rfl (ht.ex t2.ff))))) rfl fun F3 H3 s3 => ?_
  have t3 := t2.trans s3
  refine qp_asg s3.kn (p_meth0 m.rs (p_var rfl (BookAt.mo _ _ _ _ _ t3.ff hb) (BookAt.mo _ _)) (fun G v hv => by
    obtain ⟨a', dx', l', e1, e2, e3⟩ := hv
    exact ⟨a', dx', _, e1, e2, rfl, v, rfl, a', dx', l', e1, e2, e3⟩) (mo_dt _)) fun rv F4 H4 s4 hrv => ?_
  have t4 := t3.trans s4
  refine q_new s4.kn (da_cons (d_var rfl (hz.ex t4.ff)) da_nil) (by simp) fun l xs F5 H5 s5 hl0 h0l hl hxs => ?_
  have t5 := t4.trans s5
  obtain ⟨zv, rfl, hzv⟩ := da1_ hxs
  cases hzv.str_
  have ze := hz.str_
  subst ze
  have ha5 : H5 a = some (.ins (CW K) dx []) := t5.ex _ _ ha
  have hla : l ≠ a := fun e => by rw [e] at h0l; rw [h0l] at ha; cases ha
  refine q_for s5.kn (wk_enRw (da_cons (d_var rfl (ht.ex t5.ff)) da_nil)) (fun i σ' F' H' => (∃ y z, σ' = [some (.ref a), some b, some (.str m.z), some t, some rv, some (.ref l), y, z]) ∧ Dt F' t (rwD kr ds) ∧ Dt F' rv (rulesD m.rs) ∧ BookAt (CB K) m.rs F' b ∧
    H' a = some (.ins (CW K) dx []) ∧ H' l = some (.lst (((wordsOf m.rs m.z m.ss).take (i + 1)).map V.str)) ∧ F' l = none) ?_ ?_ ?_ ?_
  · intro F6 H6 s6
    refine ⟨⟨_, _, rfl⟩, ht.ex (t5.ff.trans s6.ff), hrv.ex (s5.ff.trans s6.ff), BookAt.mo _ _ _ _ _ (t5.ff.trans s6.ff) hb, s6.ex _ _ ha5, ?_, s6.fr _ _ hl hl0⟩
    rw [s6.ex _ _ hl]
    cases m.ss <;> rfl
  · rintro i σ' F' H' H2 ⟨hσ, h1, h2, h3, h4, h5, h6⟩ kn' e
    have s := kn'.step (H1 := H2) e
    exact ⟨hσ, h1.ex s.ff, h2.ex s.ff, BookAt.mo _ _ _ _ _ s.ff h3, e _ _ h4, e _ _ h5, s.fr _ _ h5 h6⟩
  · rintro i d y σ' F' H' hi kn' eF hd ⟨⟨y1, z1, rfl⟩, h1, h2, h3, h4, h5, h6⟩ N hN
    have hi1 : i < m.ss.length := by
      have z := (List.getElem?_eq_some_iff.mp hi).1
      rw [enumD_len, dsl] at z
      exact z
    have hs : m.ss[i]? = some m.ss[i] := List.getElem?_eq_getElem hi1
    obtain ⟨_, hs1, j, rfl⟩ := hds.get hs
    rw [enumD_get hs1] at hi
    cases hi
    obtain ⟨zi, q, a1, a2, a3, a4, a5, a6⟩ := ok.s.at_ hs
    have rq := ok.b.at_ a3
    refine gt2 hd kn'.fh fun v1 v2 g1 g2 => ?_
    have eG := ex_own kn' h5
    have kw : Ex F' (upd F' l (.lst (((wordsOf m.rs m.z m.ss).take (i + 1)).map V.str))) := ex_know h6
    have wl : atI ((((wordsOf m.rs m.z m.ss).take (i + 1)).map PyData.str)) ((i : Nat) : Int) = some (.str zi) := by
      rw [List.map_take]
      exact atI_take (by rw [List.getElem?_map, a1]; rfl) (Nat.lt_succ_self i)
    refine q_ifGF kn' eG (et_not (t_B (d_call (c := c_can) (da_cons (d_var rfl (h2.ex kw)) (da_cons (d_ixL (d_var rfl (dt_own h6 (strs_dt _))) (d_var rfl (g1.ex kw)) wl) (da_cons (d_var rfl (g2.ex kw)) da_nil))) ⟨_, _, _, _, _, rfl, Nat.le_trans a2 (by decide), rq.sl _, a3, rfl⟩))) (by rw [a4]; rfl) fun F6 H6 s6 => ?_
    have h5' := s6.ex _ _ h5
    have h6' := s6.fr _ _ h5 h6
    have eG' := ex_own s6.kn h5'
    have kw' : Ex F6 (upd F6 l (.lst (((wordsOf m.rs m.z m.ss).take (i + 1)).map V.str))) := ex_know h6'
    have kk := s6.ff.trans kw'
    refine k_appS s6.kn h5' h6' h0l (ev_var rfl) eG' (d_call (c := c_behind) (da_cons (d_var rfl (h2.ex kk)) (da_cons (d_ixL (d_var rfl (dt_own h6' (strs_dt _))) (d_var rfl (g1.ex kk)) wl) (da_cons (d_var rfl (g2.ex kk)) da_nil))) ⟨_, _, _, _, _, rfl, Nat.le_trans a2 (by decide), rq.sl _, rq.gl _, a3, rfl⟩) rfl ?_ fun F7 H7 k7 f7 n7 l7 o7 r7 => ?_
    · rw [List.length_map, List.length_take]
      have := ok.n
      omega
    · refine hN _ _ _ k7 (s6.ff.trans f7) ⟨⟨_, _, rfl⟩, h1.ex (s6.ff.trans f7), h2.ex (s6.ff.trans f7), BookAt.mo _ _ _ _ _ (s6.ff.trans f7) h3, o7 _ _ (Ne.symm hla) (s6.ex _ _ h4), ?_, n7⟩
      rw [l7, take_snoc a5, List.map_append]
      rfl
  · rintro σ' F' H' kn' eF ⟨⟨y1, z1, rfl⟩, h1, h2, h3, h4, h5, h6⟩
    have len : (enumD ds).length = m.ss.length := by rw [enumD_len, dsl]
    rw [len, List.take_of_length_le (by rw [wordsOf_len]; exact Nat.le_refl _)] at h5
    have knl := kn'.know h6 h0l h5
    have fl : Ex F' (upd F' l (.lst ((wordsOf m.rs m.z m.ss).map V.str))) := ex_know h6
    have dl : Dt (upd F' l (.lst ((wordsOf m.rs m.z m.ss).map V.str))) (.ref l) (strsD (wordsOf m.rs m.z m.ss)) := dt_own h6 (strs_dt _)
    have h1 := h1.ex fl
    have h3 := BookAt.mo _ _ _ _ _ fl h3
    refine q_fld knl S.cls_Way S.noat_Way__book rfl h4 (by decide) (ev_var rfl) (p_var rfl h3 (BookAt.mo _ _)) (BookAt.mo _ _) fun bv F6 H6 k6 f6 hb6 ha6 _ => ?_
    refine q_fld k6 S.cls_Way S.noat_Way__word rfl ha6 fs1 (ev_var rfl) (EvD.toP (d_var (d := .str m.z) rfl (.str m.z))) (mo_dt _) fun zv F7 H7 k7 f7 hz7 ha7 _ => ?_
    have f67 := f6.trans f7
    refine q_fld k7 S.cls_Way S.noat_Way__words rfl ha7 fs2 (ev_var rfl) (EvD.toP (d_var rfl (dl.ex f67))) (mo_dt _) fun lv F8 H8 k8 f8 hl8 ha8 _ => ?_
    have f68 := f67.trans f8
    refine k_fld k8 S.cls_Way S.noat_Way__steps rfl ha8 fs3 (ev_var rfl) (EvD.toP (d := stepsD m.ss) (d_lcm (wk_rw (d_var rfl (h1.ex f68))) (by rw [dsl]; exact Nat.le_trans ok.n (by decide)) (by rw [dsl, List.length_map]) fun i d r v F'' H'' hi hr _ _ hd Q hQ' => hQ' _ rfl ?_)) (mo_dt _) fun sv F9 H9 k9 f9 hs9 ha9 _ => ?_
    · obtain ⟨q, hq, rfl⟩ := map_at hr
      obtain ⟨_, h1', j, rfl⟩ := hds.get hq
      rw [hi] at h1'
      cases h1'
      exact d_tupRw (d_var rfl hd)
    · cases hz7.str_
      obtain ⟨l1, xs1, rfl, g1, g2⟩ := hl8.list_
      obtain ⟨l2, xs2, rfl, g3, g4⟩ := hs9.list_
      obtain ⟨b1, b2⟩ := k9.born ha9
      have f9' := (ex_know (F := F9) (o := .ins (CW K) dx (putF "_steps" (.ref l2) (putF "_words" (.ref l1) (putF "_word" (.str m.z) (putF "_book" bv []))))) (k9.md a rfl)).trans b2
      refine hQ H9 b1 ⟨a, dx, bv, l1, l2, rfl, ?_, BookAt.mo _ _ _ _ _ (((f7.trans f8).trans f9).trans f9') hb6, hl8.ex (f9.trans f9'), hs9.ex f9'⟩
      rw [way_fs]
      exact b2 _ _ upd_same
end
end K10
namespace K10
open PySem PySem.Spec PyProof.Rows L2 Evl WB
section
variable {P : Program} {w : World} {K : PySem.W.Frag} {mg : Str → Option Value} {base : Heap}
/-- one argument, a Way -/
abbrev AWy (K : PySem.W.Frag) : WayM → Hp → List V → Prop := fun m H vs => ∃ v, vs = [v] ∧ WayAt (CB K) (CW K) m H v
abbrev Wy (K : PySem.W.Frag) : WayM → Hp → V → Prop := WayAt (CB K) (CW K)
theorem wy_len {α : Type} {args : α → Hp → List V → Prop} {res : α → Hp → V → Prop} {n : Nat} (h : ∀ x F vs, args x F vs → vs.length = n) (vs : List V) (H : Hp) (Q : VK) (E : XK) (s : SpP args res vs H Q E) : vs.length = n := by
  obtain ⟨F, x, _, h1, _⟩ := s
  exact h _ _ _ h1
theorem awy_len (m : WayM) (F : Hp) (vs : List V) (h : AWy K m F vs) : vs.length = 1 := by
  obtain ⟨v, rfl, _⟩ := h
  rfl
theorem mt_Way_book (S : Env P w K mg base) : Mt P w K mg base 1 (He.ga K "Way") "book" ["self"] (SpP (AWy K) fun m H v => BookAt (CB K) m.rs H v) := mk_mt S.fun_Way_book S.cls_Way S.meth_Way_book sc_Way_book (fun _ _ _ _ _ _ us hl => match us, hl with | [_], _ => rfl) (wy_len awy_len) fun cdv A outer s H vs Q E hr h => by
  have nd := sc_Way_book.nd
  refine ⟨_, (pss_one (ps_ret (pe_fldK (K := K) rfl (pv 0)))), ?_⟩
  obtain ⟨F0, m, e0, ⟨x, rfl, hx⟩, hQ⟩ := h
  have kn := Kn.start e0
  exact kp_fin hQ (BookAt.mo _ _) kn (p_fld S.cls_Way S.noat_Way__book (p_var rfl hx (WayAt.mo _ _ _)) fun G v ⟨a, dx, b, l1, l2, e1, e2, e3, e4, e5⟩ => ⟨a, dx, _, b, e1, e2, rfl, e3⟩)
theorem mt_Way_word (S : Env P w K mg base) : Mt P w K mg base 1 (He.ga K "Way") "word" ["self"] (SpP (AWy K) fun m H v => Dt H v (.str m.z)) := mk_mt S.fun_Way_word S.cls_Way S.meth_Way_word sc_Way_word (fun _ _ _ _ _ _ us hl => match us, hl with | [_], _ => rfl) (wy_len awy_len) fun cdv A outer s H vs Q E hr h => by
  have nd := sc_Way_word.nd
  refine ⟨_, (pss_one (ps_ret (pe_fldK (K := K) rfl (pv 0)))), ?_⟩
  obtain ⟨F0, m, e0, ⟨x, rfl, hx⟩, hQ⟩ := h
  have kn := Kn.start e0
  exact kp_fin hQ (mo_dt _) kn (p_fld S.cls_Way S.noat_Way__word (p_var rfl hx (WayAt.mo _ _ _)) fun G v ⟨a, dx, b, l1, l2, e1, e2, e3, e4, e5⟩ => ⟨a, dx, _, _, e1, e2, rfl, .str _⟩)
theorem mt_Way_steps (S : Env P w K mg base) : Mt P w K mg base 1 (He.ga K "Way") "steps" ["self"] (SpP (AWy K) fun m H v => Dt H v (stepsD m.ss)) := mk_mt S.fun_Way_steps S.cls_Way S.meth_Way_steps sc_Way_steps (fun _ _ _ _ _ _ us hl => match us, hl with | [_], _ => rfl) (wy_len awy_len) fun cdv A outer s H vs Q E hr h => by
  have nd := sc_Way_steps.nd
  refine ⟨_, (pss_one (ps_ret (pe_callTy (r := rListQ K) (T := "list") call_list_of (by rfl) S.free_list (by decide +kernel) (pa_cons (pe_fldK (K := K) rfl (pv 0)) pa_nil)))), ?_⟩
  obtain ⟨F0, m, e0, ⟨x, rfl, hx⟩, hQ⟩ := h
  have kn := Kn.start e0
  exact kp_fin hQ (mo_dt _) kn (d_listL (EvP.toD (p_fld S.cls_Way S.noat_Way__steps (p_var rfl hx (WayAt.mo _ _ _)) fun G v ⟨a, dx, b, l1, l2, e1, e2, e3, e4, e5⟩ => ⟨a, dx, _, _, e1, e2, rfl, e5⟩)))
theorem mt_Way_words (S : Env P w K mg base) : Mt P w K mg base 1 (He.ga K "Way") "words" ["self"] (SpP (AWy K) fun m H v => Dt H v (strsD (wordsOf m.rs m.z m.ss))) := mk_mt S.fun_Way_words S.cls_Way S.meth_Way_words sc_Way_words (fun _ _ _ _ _ _ us hl => match us, hl with | [_], _ => rfl) (wy_len awy_len) fun cdv A outer s H vs Q E hr h => by
  have nd := sc_Way_words.nd
  refine ⟨_, (pss_one (ps_ret (pe_callTy (r := rListQ K) (T := "list") call_list_of (by rfl) S.free_list (by decide +kernel) (pa_cons (pe_fldK (K := K) rfl (pv 0)) pa_nil)))), ?_⟩
  obtain ⟨F0, m, e0, ⟨x, rfl, hx⟩, hQ⟩ := h
  have kn := Kn.start e0
  exact kp_fin hQ (mo_dt _) kn (d_listL (EvP.toD (p_fld S.cls_Way S.noat_Way__words (p_var rfl hx (WayAt.mo _ _ _)) fun G v ⟨a, dx, b, l1, l2, e1, e2, e3, e4, e5⟩ => ⟨a, dx, _, _, e1, e2, rfl, e4⟩)))
/-- no Way -/
abbrev NoWay (K : PySem.W.Frag) : Hp → V → Prop := fun G v => ∃ d, Dt G v d ∧ HasTy K d ∧ PySem.W.kitOne K (tyD d) (.ref (CW K)) = some false
theorem noway_mo : Mo (NoWay K) := fun H H' v e ⟨d, h1, h2⟩ => ⟨d, h1.ex e, h2⟩
abbrev BadW (K : PySem.W.Frag) : Hp → List V → Addr → Str → V → Prop := fun G vs C f z => (∃ v, vs = [v] ∧ NoWay K G v ∧ z = v) ∧ C = He.ga K "BadWay" ∧ f = "thing"
theorem badw_mo {C : Addr} {f : Str} {z : V} : MoA (fun G vs => BadW K G vs C f z) := fun H H' vs e ⟨⟨v, h1, h2, h3⟩, h4⟩ => ⟨⟨v, h1, noway_mo _ _ _ e h2, h3⟩, h4⟩
theorem badw_len (F : Hp) (vs : List V) (C : Addr) (f : Str) (v : V) (h : BadW K F vs C f v) : vs.length = 1 := by
  obtain ⟨⟨v, rfl, _⟩, _⟩ := h
  rfl
theorem cl_need_way (S : Env P w K mg base) : Cl P w K mg base 3 "need_way" ["thing"] (SpOr (SpP (AWy K) RNon) (SpX (BadW K))) := mk_cl S.fun_need_way S.glo_need_way sc_need_way (fun _ _ _ _ _ _ us hl => match us, hl with | [_], _ => rfl) (or_len (wy_len awy_len) (x_len badw_len)) fun cdv A outer s H vs Q E hr h => by
  have nd := sc_need_way.nd
  refine ⟨_, (pss_one (ps_if (pt_not (pt_val (pe_callB (r := rIsi K) (id := "isinstance") call_isi (by rfl) S.free_isinstance (by decide +kernel) (pa_cons (pv 0) (pa_cons (pe_glob (v := V.ref (He.ga K "Way")) (by rfl) S.glo_Way rfl) pa_nil))))) (pss_one (ps_raise1 (er_BadWay S) hr (by decide) rfl (takes_of rfl rfl rfl rfl) (by rfl) (pv 0))) pss_nil)), ?_⟩
  rcases h with ⟨F0, m, e0, ⟨x, rfl, hx⟩, hQ⟩ | ⟨F0, C, f, z, e0, ⟨⟨x, rfl, ⟨d, hd, ht, hk⟩, rfl⟩, rfl, rfl⟩, hE⟩
  · have kn := Kn.start e0
    refine k_ifF kn (et_not (t_B (p_isiO (p_var rfl hx (WayAt.mo _ _ _)) (wy_ty S) (WayAt.mo _ _ _) S.kit_Way_Way))) rfl fun F1 H1 s1 => ?_
    exact hQ _ _ s1.kn.hh .non
  · refine k_ifT (Kn.start e0) (et_not (t_B (d_isiO (d_var rfl hd) ht hk))) rfl fun F1 H1 s1 => ?_
    exact x_raise (Ex.refl H1) (ev_var rfl) fun d H' e hn hd => hE d H' (s1.ex.trans e) (exdm s1.ex d hn) hd
/-- o.m() of a Way -/
theorem wy_m {σ : L2.St} {F : Hp} {te : TE} {m : WayM} {f : Str} {T : WayM → Hp → V → Prop} {E : XK} (h : EvP te σ F (Wy K m)) (hl : ∀ b l1 l2, (wayFs b m.z l1 l2).lookup f = none) (mo : Mo (T m)) : EvP (tMeth (CW K) f (SpP (AWy K) T) [] E te tNil) σ F (T m) :=
  p_meth0 m h (fun G v hv => by
    obtain ⟨a, dx, b, l1, l2, e1, e2, e3⟩ := hv
    exact ⟨a, dx, _, e1, e2, hl _ _ _, v, rfl, a, dx, b, l1, l2, e1, e2, e3⟩) mo
theorem bk_m {σ : L2.St} {F : Hp} {te : TE} {rs : List Rule} {f : Str} {T : List Rule → Hp → V → Prop} {E : XK} (h : EvP te σ F (BookAt (CB K) rs)) (hl : ∀ l, ([("_rules", l)] : List (Str × V)).lookup f = none) (mo : Mo (T rs)) : EvP (tMeth (CB K) f (SpP (ABk K) T) [] E te tNil) σ F (T rs) :=
  p_meth0 rs h (fun G v hv => by
    obtain ⟨a, dx, l, e1, e2, e3⟩ := hv
    exact ⟨a, dx, _, e1, e2, hl _, v, rfl, a, dx, l, e1, e2, e3⟩) mo
theorem steps_len (ss : List WStep) : (ss.map stepD).length = ss.length := List.length_map ..
theorem tyn_way (S : Env P w K mg base) (a : Addr) : TyN K (.dict [(.int (a : Nat), .int (CW K : Nat))]) := ⟨ty_ins fun H dx fs h => S.ins_Way h, S.kot_Way_int, S.kot_Way_bool⟩
/-- what an exchange tells -/
def exchD (o : Option (WStep × WStep)) : PyData := match o with
  | none => .none
  | some p => .list [stepD p.1, stepD p.2]
def c_exch (ds : List PyData) (r : PyData) : Prop := ∃ (rs : List Rule) (s t : WStep) (q1 q2 : Rule), ds = [rulesD rs, stepD s, stepD t] ∧ rs[s.2.1]? = some q1 ∧ rs[t.2.1]? = some q2 ∧ RuOk q1 ∧ RuOk q2 ∧ r = exchD (exch rs s t)
theorem exch_1 {rs : List Rule} {s t : WStep} (h : t.1 + srL rs t ≤ s.1) : exch rs s t = some (t, (s.1 + goL rs t - srL rs t, s.2)) := if_pos h
theorem exch_2 {rs : List Rule} {s t : WStep} (h : ¬ t.1 + srL rs t ≤ s.1) (h2 : s.1 + goL rs s ≤ t.1) : exch rs s t = some ((t.1 - goL rs s + srL rs s, t.2), s) := (if_neg h).trans (if_pos h2)
theorem exch_3 {rs : List Rule} {s t : WStep} (h : ¬ t.1 + srL rs t ≤ s.1) (h2 : ¬ s.1 + goL rs s ≤ t.1) : exch rs s t = none := (if_neg h).trans (if_neg h2)
end
end K10
namespace K10
open PySem PySem.Spec PyProof.Rows L2 Evl WB
section
variable {P : Program} {w : World} {K : PySem.W.Frag} {mg : Str → Option Value} {base : Heap}
abbrev AWk (K : PySem.W.Frag) : WayM → Hp → List V → Prop := fun m H vs => m.Ok ∧ ∃ v, vs = [v] ∧ WayAt (CB K) (CW K) m H v
theorem r_len {α : Type} {args : α → Hp → List V → Prop} {res : α → PyData} {n : Nat} (h : ∀ x F vs, args x F vs → vs.length = n) (vs : List V) (H : Hp) (Q : VK) (E : XK) (s : SpR args res vs H Q E) : vs.length = n := by
  obtain ⟨F, x, _, h1, _⟩ := s
  exact h _ _ _ h1
theorem awk_len (m : WayM) (F : Hp) (vs : List V) (h : AWk K m F vs) : vs.length = 1 := by
  obtain ⟨_, v, rfl, _⟩ := h
  rfl
/-- the numbers of these labels -/
def nums (m : WayM) (ls : List Lab) : List Nat := ls.map (numL m.rs m.z m.ss)
def pairAt (m : WayM) (n : Nat) : PyData := match m.ss[n]? with
  | some s => .tuple [natsD (nums m (takenL m.rs m.z m.ss n s)), natsD (nums m (givenL m.rs n s))]
  | none => .none
def pairsD (m : WayM) (n : Nat) : List PyData := (List.range n).map (pairAt m)
def wiresD (m : WayM) : PyData := .list (pairsD m m.ss.length)
theorem pairs_s {m : WayM} {n : Nat} {s : WStep} (h : m.ss[n]? = some s) : pairsD m (n + 1) = pairsD m n ++ [.tuple [natsD (nums m (takenL m.rs m.z m.ss n s)), natsD (nums m (givenL m.rs n s))]] := by
  unfold pairsD
  rw [List.range_succ, List.map_append]
  congr 1
  show [pairAt m n] = _
  unfold pairAt
  rw [h]
theorem range_nums (m : WayM) : nums m (rowAt m.rs m.z m.ss 0) = List.range m.z.length := by
  unfold nums rowAt
  rw [List.map_map]
  exact List.map_id _
theorem row_nums {m : WayM} {n : Nat} {s : WStep} (h : m.ss[n]? = some s) : nums m (rowAt m.rs m.z m.ss (n + 1)) = (nums m (rowAt m.rs m.z m.ss n)).take s.1 ++ nums m (givenL m.rs n s) ++ (nums m (rowAt m.rs m.z m.ss n)).drop (s.1 + srL m.rs s) := by
  rw [row_s h]
  unfold nextRow nums
  rw [List.map_append, List.map_append, List.map_take, List.map_drop]
theorem taken_nums {m : WayM} {n : Nat} {s : WStep} : nums m (takenL m.rs m.z m.ss n s) = ((nums m (rowAt m.rs m.z m.ss n)).drop s.1).take (srL m.rs s) := by
  unfold takenL nums
  rw [List.map_take, List.map_drop]
theorem given_nums {m : WayM} {n : Nat} {s : WStep} : nums m (givenL m.rs n s) = (List.range (goL m.rs s)).map fun j => freshAt m.rs m.z m.ss n + j := given_num ..
def rowD (m : WayM) (n : Nat) : PyData := natsD (nums m (rowAt m.rs m.z m.ss n))
theorem cl_wires_and_end (S : Env P w K mg base) : Cl P w K mg base 2 "wires_and_end" ["way"] (SpR (AWk K) fun m => .tuple [wiresD m, rowD m m.ss.length]) := mk_cl S.fun_wires_and_end S.glo_wires_and_end sc_wires_and_end (fun _ _ _ _ _ _ us hl => match us, hl with | [_], _ => rfl) (r_len awk_len) fun cdv A outer s H vs Q E hr h => by
  have nd := sc_wires_and_end.nd
  refine ⟨_, (pss_cons (ps_set (i := 1) nd rfl (by first | exact Or.inl rfl | exact Or.inr rfl) (pe_mt0 (mt_Book_rules S) hr (by decide) pass_none (pe_mt0 (mt_Way_book S) hr (by decide) pass_none (pv 0))))
    (pss_cons (ps_set (i := 2) nd rfl (by first | exact Or.inl rfl | exact Or.inr rfl) (pe_listRg rfl rfl S.free_list (prg_1 rfl S.free_range (pe_callB (r := rLenSQ) (id := "len") call_len_str (by rfl) S.free_len (by decide +kernel) (pa_cons (pe_mt0 (mt_Way_word S) hr (by decide) pass_none (pv 0)) pa_nil)))))
    (pss_cons (ps_set (i := 3) nd rfl (by first | exact Or.inl rfl | exact Or.inr rfl) (pe_callB (r := rLenQ K) (id := "len") call_len_seq (by rfl) S.free_len (by decide +kernel) (pa_cons (pv 2) pa_nil)))
    (pss_cons (ps_set (i := 4) nd rfl (by first | exact Or.inl rfl | exact Or.inr rfl) (pe_lst pa_nil))
    (pss_cons (ps_for (passes_of rfl) rfl (pi_listK (K := K) rfl (pe_mt0 (mt_Way_steps S) hr (by decide) pass_none (pv 0))) (pg_name (i := 5) nd rfl (by first | exact Or.inl rfl | exact Or.inr rfl))
    (pss_cons (ps_asg (pe_cl (cl_sides S) hr (by decide) pass_none (by rfl) (pa_cons (pv 1) (pa_cons (pv 5) pa_nil))) (pg_tupK (K := K) (n := 2) rfl rfl (pgs_cons (pg_name (i := 6) nd rfl (by first | exact Or.inl rfl | exact Or.inr rfl)) (pgs_cons (pg_name (i := 7) nd rfl (by first | exact Or.inl rfl | exact Or.inr rfl)) pgs_nil))))
    (pss_cons (ps_set (i := 8) nd rfl (by first | exact Or.inl rfl | exact Or.inr rfl) (pe_ix (r := rIxT K) ix_tup (pv 5) pe_int (fun _ _ => rfl)))
    (pss_cons (ps_set (i := 9) nd rfl (by first | exact Or.inl rfl | exact Or.inr rfl) (pe_slice (r := rSlL K) sl_list (pv 2) (po_some (pv 8)) (po_some (pe_op op_add (pv 8) (pe_callB (r := rLenSQ) (id := "len") call_len_str (by rfl) S.free_len (by decide +kernel) (pa_cons (pv 6) pa_nil))))))
    (pss_cons (ps_set (i := 10) nd rfl (by first | exact Or.inl rfl | exact Or.inr rfl) (pe_listRg rfl rfl S.free_list (prg_2 rfl S.free_range (pv 3) (pe_op op_add (pv 3) (pe_callB (r := rLenSQ) (id := "len") call_len_str (by rfl) S.free_len (by decide +kernel) (pa_cons (pv 7) pa_nil))))))
    (pss_cons (ps_aug (i := 3) nd rfl (by first | exact Or.inl rfl | exact Or.inr rfl) (pe_callB (r := rLenSQ) (id := "len") call_len_str (by rfl) S.free_len (by decide +kernel) (pa_cons (pv 7) pa_nil)) ip_add)
    (pss_cons (ps_asg (pv 10) (pg_slc (pv 2) (po_some (pv 8)) (po_some (pe_op op_add (pv 8) (pe_callB (r := rLenSQ) (id := "len") call_len_str (by rfl) S.free_len (by decide +kernel) (pa_cons (pv 6) pa_nil))))))
    (pss_one (ps_expr (pe_bmK (K := K) (r := rAppend) rfl PySem.F.plainAttrs_list PySem.F.slot_list_append PySem.F.type_list_append mt_append (pv 4) (pa_cons (pe_tup (pa_cons (pv 9) (pa_cons (pv 10) pa_nil))) pa_nil)))))))))))
    (pss_one (ps_ret (pe_tup (pa_cons (pv 4) (pa_cons (pv 2) pa_nil)))))))))), ?_⟩
  obtain ⟨F0, m, e0, ⟨ok, x, rfl, hx⟩, hQ⟩ := h
  have kn := Kn.start e0
  have s1 := kn.step (Ex.refl H)
  have hx1 := WayAt.mo _ _ _ _ _ _ s1.ff hx
  refine qp_asg s1.kn (bk_m (wy_m (p_var rfl hx1 (WayAt.mo _ _ _)) (fun _ _ _ => rfl) (BookAt.mo _ _)) (fun _ => rfl) (mo_dt _)) fun rv F2 H2 s2 hrv => ?_
  have t2 := s1.trans s2
  have hx2 := WayAt.mo _ _ _ _ _ _ t2.ff hx
  have zl := ok.s.len
  refine q_row s2.kn (er_rg1 (d_lenS (EvP.toD (wy_m (p_var rfl hx2 (WayAt.mo _ _ _)) (fun _ _ _ => rfl) (mo_dt _))) (szS (Nat.le_trans zl (by decide)))) (RgOk.of_le (by omega) (by omega) (by omega) (by omega))) fun lr H3 s3 hlr0 hlr => ?_
  have t3 := t2.trans s3
  have hF3 : but (nw F2 H2 H3) lr lr = none := but_same
  have h0r : H lr = none := t2.kn.dm lr hlr0
  refine q_asgS (d := .int (m.z.length : Nat)) s3.kn (ex_own s3.kn hlr) ((d_lenL (d_var rfl (dt_own hF3 (nats_all _).dt))).is (by rw [List.length_map, List.length_range])) rfl fun F4 H4 s4 => ?_
  have t4 := t3.trans s4
  refine q_newN s4.kn da_nil (by simp) fun lt xs F5 H5 s5 hlt0 hl4 hlt hxs => ?_
  have t5 := t4.trans s5
  cases hxs.nil_
  have ne : lr ≠ lt := fun q => by
    have := s4.ex _ _ hlr
    rw [q, hl4] at this
    cases this
  have h0t : H lt = none := t4.kn.dm lt hl4
  have hrv5 : Dt F5 rv (rulesD m.rs) := hrv.ex ((s3.ff.trans s4.ff).trans s5.ff)
  have hx5 := WayAt.mo _ _ _ _ _ _ t5.ff hx
  refine q_for s5.kn (wk_list (EvP.toD (wy_m (p_var rfl hx5 (WayAt.mo _ _ _)) (fun _ _ _ => rfl) (mo_dt _)))) (fun i σ' F' H' => (∃ y5 y6 y7 y8 y9 y10, σ' = [some x, some rv, some (.ref lr), some (.int (freshAt m.rs m.z m.ss i : Nat)), some (.ref lt), y5, y6, y7, y8, y9, y10]) ∧ Dt F' rv (rulesD m.rs) ∧
    H' lr = some (.lst (natsV (nums m (rowAt m.rs m.z m.ss i)))) ∧ F' lr = none ∧ F' lt = none ∧ ∃ vs as, H' lt = some (.lst vs) ∧ TrAll F' vs (pairsD m i) as ∧ as.Nodup ∧ (∀ a ∈ as, H a = none)) ?_ ?_ ?_ ?_
  · intro F6 H6 s6
    refine ⟨⟨none, none, none, none, none, none, ?_⟩, hrv5.ex s6.ff, ?_, ?_, ?_, [], [], s6.ex _ _ hlt, .nil, List.nodup_nil, fun a z => nomatch z⟩
    · rw [show freshAt m.rs m.z m.ss 0 = m.z.length by unfold freshAt; rw [List.take_zero, List.map_nil, List.sum_nil, Nat.add_zero]]
      rfl
    · rw [range_nums]
      exact s6.ex _ _ (s5.ex _ _ (s4.ex _ _ hlr))
    · exact s6.fr _ _ (s5.ex _ _ (s4.ex _ _ hlr)) (s5.fr _ _ (s4.ex _ _ hlr) (s4.fr _ _ hlr hF3))
    · exact s6.fr _ _ hlt hlt0
  · rintro i σ' F' H' H2 ⟨hσ, g1, g2, g3, g4, vs, as, g5, g6, g7, g8⟩ kn' e
    have s := kn'.step (H1 := H2) e
    exact ⟨hσ, g1.ex s.ff, e _ _ g2, s.fr _ _ g2 g3, s.fr _ _ g5 g4, vs, as, e _ _ g5, g6.ex s.ff, g7, g8⟩
  · rintro i d y σ' F' H' hi kn' eF hd ⟨⟨y5, y6, y7, y8, y9, y10, rfl⟩, g1, g2, g3, g4, vs, as, g5, g6, g7, g8⟩ N hN
    obtain ⟨st, hst, rfl⟩ := map_at hi
    obtain ⟨q, zi, zj, sa⟩ := ok.step hst
    have rl := row_len ok sa.z
    refine q_unp2 kn' (d_call (da_cons (d_var rfl g1) (da_cons (d_var rfl hd) da_nil)) ⟨_, false, _, _, rfl, sa.hq, rfl⟩) fun v1 v2 F6 H6 s6 k1 k2 => ?_
    refine q_asg s6.kn (d_st0 (d_var rfl (hd.ex s6.ff))) fun pv F7 H7 s7 hpv => ?_
    have t7 := s6.trans s7
    cases hpv.int_
    cases k1.str_
    cases k2.str_
    have sl : (src q st.2.2).length ≤ sizeLine := szS (Nat.le_trans (sa.ok.sl _) (by decide))
    have gl : (gol q st.2.2).length ≤ sizeLine := szS (Nat.le_trans (sa.ok.gl _) (by decide))
    have el : ((st.1 : Nat) : Int) + ((src q st.2.2).length : Nat) = ((st.1 + srL m.rs st : Nat) : Int) := by rw [srL_eq sa.hq]; omega
    have g2' := t7.ex _ _ g2
    have fl := fresh_le ok i
    refine q_asgR s7.kn (ex_own s7.kn g2') (er_sl (ms := nums m (takenL m.rs m.z m.ss i st)) (ev_var rfl) upd_same (do_some (d_var rfl (.int _))) (do_some (d_add (d_var rfl (.int _)) (d_lenS (d_var rfl (.str _)) sl))) ?_) fun v9 as9 F8 H8 s8 r9 n9 f9 => ?_
    · rw [el, cutV_nn, taken_nums]
      congr 2
      omega
    have t8 := t7.trans s8
    obtain ⟨a9, rfl, rfl, h9⟩ := r9.nats_
    have f9 := f9 a9 (List.mem_singleton.mpr rfl)
    refine q_asgR s8.kn s8.kn.fh ((er_rg2 (n := (gol q st.2.2).length) (d_var rfl (.int _)) (d_add (d_var rfl (.int _)) (d_lenS (d_var rfl (.str _)) gl)) (RgOk.of_le (by omega) (by have := sa.ok.gl st.2.2; omega) (by omega) (by omega))).is (e := natsD (nums m (givenL m.rs i st))) (by rw [given_nums, goL_eq sa.hq])) fun v10 as10 F9 H9 s9 r10 n10 f10 => ?_
    have t9 := t8.trans s9
    obtain ⟨a10, rfl, rfl, h10⟩ := r10.nats_
    have f10 := f10 a10 (List.mem_singleton.mpr rfl)
    refine q_aug s9.kn rfl (d_lenS (d_var rfl (.str _)) gl) fun F10 H10 s10 => ?_
    have t10 := t9.trans s10
    have rn : (nums m (rowAt m.rs m.z m.ss i)).length = zi.length := by unfold nums; rw [List.length_map, rl]
    have gn : (nums m (givenL m.rs i st)).length = goL m.rs st := by unfold nums givenL; rw [List.length_map, List.length_map, List.length_range]
    refine q_slc (lo := ((st.1 : Nat) : Int)) (hi := ((st.1 + srL m.rs st : Nat) : Int)) s10.kn (t10.ex _ _ g2) (t10.fr _ _ g2 g3) h0r (s10.ff _ _ h10) (ev_var rfl) (ev_var rfl) (do_some (d_var rfl (.int _))) (by rw [← el]; exact do_some (d_add (d_var rfl (.int _)) (d_lenS (d_var rfl (.str _)) sl))) (by omega) (by omega) (by rw [natsV_len, rn]; have := sa.c; omega) (by rw [natsV_len, natsV_len, rn, gn]; have := sa.zl; have := sa.ok.gl st.2.2; rw [goL_eq sa.hq]; exact sz_of (by omega)) fun F11 H11 k11 ff11 fn11 hl11 o11 fr11 => ?_
    have g5' := o11 _ _ (Ne.symm ne) (t10.ex _ _ g5)
    have r9' := r9.ex ((s9.ff.trans s10.ff).trans ff11)
    have r10' := r10.ex (s10.ff.trans ff11)
    have g6' := g6.ex (t10.ff.trans ff11)
    have vl : vs.length = i := by
      have := g6.dt.len
      unfold pairsD at this
      rw [List.length_map, List.length_range] at this
      exact this
    have il : i < m.ss.length := (List.getElem?_eq_some_iff.mp hst).1
    have := ok.n
    refine k_appP k11 g5' (fr11 _ _ (t10.ex _ _ g5) (t10.fr _ _ g5 g4)) h0t (ev_var rfl) (p_tup2 (p_var rfl r9' (mo_tr _ _)) (mo_tr _ _) (p_var rfl r10' (mo_tr _ _)) (mo_tr _ _)) (mo_tup2 (mo_tr _ _) (mo_tr _ _)) (by omega) fun v F12 H12 k12 ff12 fn12 hv hl12 o12 fr12 => ?_
    obtain ⟨p, x1, x2, rfl, hp, b9, b10⟩ := hv
    have fa : Ex F' F12 := (t10.ff.trans ff11).trans ff12
    have ma : a9 ∉ as := g6.fresh (t7.ff.trans s7.kn.fh) f9
    have mb : a10 ∉ as := g6.fresh (t8.ff.trans s8.kn.fh) f10
    refine hN _ F12 H12 k12 fa ⟨⟨some y, some (V.str (src q st.2.2)), some (V.str (gol q st.2.2)), some (V.int (st.1 : Nat)), some (V.ref a9), some (V.ref a10), ?_⟩, g1.ex fa, ?_, fr12 _ _ hl11 fn11, fn12, vs ++ [.ref p], as ++ [a9, a10], hl12, ?_, nodup_two g7 ma mb fun z => ?_, ?_⟩
    · rw [fresh_s hst, goL_eq sa.hq]
      rfl
    · rw [row_nums hst]
      have z := o12 _ _ ne hl11
      rw [z]
      congr 2
      unfold natsV
      rw [List.map_append, List.map_append, List.map_take, List.map_drop]
      rfl
    · rw [pairs_s hst]
      exact (g6.ex fa).app (.one (.tup hp (.cons b9 (.one b10))))
    · rw [z] at h9
      rw [s8.kn.fh _ _ h9] at f10
      cases f10
    · intro a ha
      rcases List.mem_append.mp ha with q | q
      · exact g8 a q
      · rcases List.mem_cons.mp q with q | q
        · rw [q]; exact s7.kn.dm _ f9
        · rw [List.mem_singleton.mp q]; exact s8.kn.dm _ f10
  · rintro σ' F' H' kn' eF ⟨⟨y5, y6, y7, y8, y9, y10, rfl⟩, g1, g2, g3, g4, vs, as, g5, g6, g7, g8⟩
    rw [steps_len] at g2 g6
    exact k_finR2 hQ kn' g5 g4 h0t g6 g7 g8 g2 g3 h0r ne (ev_var rfl) (ev_var rfl)
theorem pa_wk {σ : L2.St} {F : Hp} {te : TE} {m : WayM} (h : EvP te σ F (Wy K m)) (ok : m.Ok) : EvPA (tCons te tNil) σ F (AWk K m) := fun H1 e _ q =>
  h H1 e _ fun x H2 e2 hx => q [x] H2 e2 ⟨ok, x, rfl, hx⟩
theorem fo_wires (S : Env P w K mg base) {fd : FuncData} (F : FunD K d_wires.name d_wires.qual d_wires.params d_wires.body d_wires.scope [] [] (He.fAd K d_wires.at_) fd) : FnOk P w K mg base (L2.CX P w) 5 (He.fAd K d_wires.at_) fd ["way"] (SpOr (SpR (AWk K) wiresD) (SpX (BadW K))) := F.ok sc_wires (or_len (r_len awk_len) (x_len badw_len)) fun cdv A outer s H vs Q E hr h => by
  have nd := sc_wires.nd
  refine ⟨_, (pss_cons (ps_expr (pe_cl (cl_need_way S) hr (by decide) (passes_call (takes_of rfl rfl rfl rfl) fun _ _ _ _ h => h) (by rfl) (pa_cons (pv 0) pa_nil)))
    (pss_one (ps_ret (pe_ix (r := rIxT K) ix_tup (pe_cl (cl_wires_and_end S) hr (by decide) (passes_call (takes_of rfl rfl rfl rfl) fun _ _ _ _ h => h) (by rfl) (pa_cons (pv 0) pa_nil)) pe_int (fun _ _ => rfl))))), ?_⟩
  rcases h with ⟨F0, m, e0, ⟨ok, x, rfl, hx⟩, hQ⟩ | ⟨F0, C, f, z, e0, hb, hE⟩
  rotate_left
  · obtain ⟨⟨x, rfl, _⟩, _⟩ := id hb
    exact x_drop (x_call e0 (pa_v1 rfl hb badw_mo) fun d H' e hd hn => hE d H' e hn hd)
  have kn := Kn.start e0
  refine qp_drop kn (p_callL m (pa_cons1 (p_var rfl hx (WayAt.mo _ _ _)) (WayAt.mo _ _ _)) (mo_dt _)) fun F1 H1 s1 => ?_
  have hx1 := WayAt.mo _ _ _ _ _ _ s1.ff hx
  exact kr_fin hQ s1.kn (r_ix0 (r_call m (pa_wk (p_var rfl hx1 (WayAt.mo _ _ _)) ok)) (Ex.refl _))
theorem cl_wires (S : Env P w K mg base) : Cl P w K mg base 5 "wires" ["way"] (SpOr (SpR (AWk K) wiresD) (SpX (BadW K))) := mk_clF S.fun_wires S.glo_wires (fun F => fo_wires S F) (fun _ _ _ _ _ _ us hl => match us, hl with | [_], _ => rfl)
end
end K10
namespace K10
open PySem PySem.Spec PyProof.Rows L2 Evl WB
section
variable {P : Program} {w : World} {K : PySem.W.Frag} {mg : Str → Option Value} {base : Heap}
def c_source (ds : List PyData) (r : PyData) : Prop := ∃ (rs : List Rule) (s : WStep) (q : Rule), ds = [rulesD rs, stepD s] ∧ rs[s.2.1]? = some q ∧ r = .str (src q s.2.2)
theorem cl__law_w_source (S : Env P w K mg base) : Cl P w K mg base 1 "_law_w_source" ["rules", "step"] (SpD c_source) := mk_cl S.fun__law_w_source S.glo__law_w_source sc__law_w_source (fun _ _ _ _ _ _ us hl => match us, hl with | [_, _], _ => rfl) (SpD.len fun _ _ ⟨_, _, _, e, _⟩ => e ▸ rfl) fun cdv A outer s H vs Q E hr h => by
  have nd := sc__law_w_source.nd
  refine ⟨_, (pss_one (ps_ret (pe_ifExp (pt_cmpR op_eq (pe_ix (r := rIxT K) ix_tup (pv 1) pe_int (fun _ _ => rfl)) pe_str (nomark _)) (pe_ix (r := rIxT K) ix_tup (pe_ix (r := rIxL K) ix_list (pv 0) (pe_ix (r := rIxT K) ix_tup (pv 1) pe_int (fun _ _ => rfl)) (fun _ _ => rfl)) pe_int (fun _ _ => rfl)) (pe_ix (r := rIxT K) ix_tup (pe_ix (r := rIxL K) ix_list (pv 0) (pe_ix (r := rIxT K) ix_tup (pv 1) pe_int (fun _ _ => rfl)) (fun _ _ => rfl)) pe_int (fun _ _ => rfl))))), ?_⟩
  obtain ⟨F0, ds, r, e0, hd, hc, hQ⟩ := h
  have kn := Kn.start e0
  obtain ⟨rs, ⟨p, n, b⟩, q, rfl, hq, rfl⟩ := hc
  obtain ⟨x, y, rfl, hx, hy⟩ := da2_ hd
  refine k_fin (Q := Q) hQ kn (d_if (t_on (d_var rfl hy)) (fun e => ?_) fun e => ?_)
  · cases e
    exact d_ru0 (d_rul (d_var rfl hx) (d_var rfl hy) hq)
  · cases e
    exact d_ru1 (d_rul (d_var rfl hx) (d_var rfl hy) hq)
def c_goal (ds : List PyData) (r : PyData) : Prop := ∃ (rs : List Rule) (s : WStep) (q : Rule), ds = [rulesD rs, stepD s] ∧ rs[s.2.1]? = some q ∧ r = .str (gol q s.2.2)
theorem cl__law_w_goal (S : Env P w K mg base) : Cl P w K mg base 1 "_law_w_goal" ["rules", "step"] (SpD c_goal) := mk_cl S.fun__law_w_goal S.glo__law_w_goal sc__law_w_goal (fun _ _ _ _ _ _ us hl => match us, hl with | [_, _], _ => rfl) (SpD.len fun _ _ ⟨_, _, _, e, _⟩ => e ▸ rfl) fun cdv A outer s H vs Q E hr h => by
  have nd := sc__law_w_goal.nd
  refine ⟨_, (pss_one (ps_ret (pe_ifExp (pt_cmpR op_eq (pe_ix (r := rIxT K) ix_tup (pv 1) pe_int (fun _ _ => rfl)) pe_str (nomark _)) (pe_ix (r := rIxT K) ix_tup (pe_ix (r := rIxL K) ix_list (pv 0) (pe_ix (r := rIxT K) ix_tup (pv 1) pe_int (fun _ _ => rfl)) (fun _ _ => rfl)) pe_int (fun _ _ => rfl)) (pe_ix (r := rIxT K) ix_tup (pe_ix (r := rIxL K) ix_list (pv 0) (pe_ix (r := rIxT K) ix_tup (pv 1) pe_int (fun _ _ => rfl)) (fun _ _ => rfl)) pe_int (fun _ _ => rfl))))), ?_⟩
  obtain ⟨F0, ds, r, e0, hd, hc, hQ⟩ := h
  have kn := Kn.start e0
  obtain ⟨rs, ⟨p, n, b⟩, q, rfl, hq, rfl⟩ := hc
  obtain ⟨x, y, rfl, hx, hy⟩ := da2_ hd
  refine k_fin (Q := Q) hQ kn (d_if (t_on (d_var rfl hy)) (fun e => ?_) fun e => ?_)
  · cases e
    exact d_ru1 (d_rul (d_var rfl hx) (d_var rfl hy) hq)
  · cases e
    exact d_ru0 (d_rul (d_var rfl hx) (d_var rfl hy) hq)
def c_w_can (ds : List PyData) (r : PyData) : Prop := ∃ (rs : List Rule) (z : Str) (s : WStep) (q : Rule), ds = [rulesD rs, .str z, stepD s] ∧ z.length ≤ 100000 ∧ (src q s.2.2).length ≤ 1000 ∧ rs[s.2.1]? = some q ∧ r = .bool (canR q z s)
theorem cl__law_w_can (S : Env P w K mg base) : Cl P w K mg base 2 "_law_w_can" ["rules", "word", "step"] (SpD c_w_can) := mk_cl S.fun__law_w_can S.glo__law_w_can sc__law_w_can (fun _ _ _ _ _ _ us hl => match us, hl with | [_, _, _], _ => rfl) (SpD.len fun _ _ ⟨_, _, _, _, e, _⟩ => e ▸ rfl) fun cdv A outer s H vs Q E hr h => by
  have nd := sc__law_w_can.nd
  refine ⟨_, (pss_cons (ps_set (i := 3) nd rfl (by first | exact Or.inl rfl | exact Or.inr rfl) (pe_cl (cl__law_w_source S) hr (by decide) pass_none (by rfl) (pa_cons (pv 0) (pa_cons (pv 2) pa_nil))))
    (pss_one (ps_ret (pe_cmpR op_eq (pe_slice (r := rSlS) sl_str (pv 1) (po_some (pe_ix (r := rIxT K) ix_tup (pv 2) pe_int (fun _ _ => rfl))) (po_some (pe_op op_add (pe_ix (r := rIxT K) ix_tup (pv 2) pe_int (fun _ _ => rfl)) (pe_callB (r := rLenSQ) (id := "len") call_len_str (by rfl) S.free_len (by decide +kernel) (pa_cons (pv 3) pa_nil))))) (pv 3) (nomark _))))), ?_⟩
  obtain ⟨F0, ds, r, e0, hd, hc, hQ⟩ := h
  have kn := Kn.start e0
  obtain ⟨rs, z, ⟨p, n, b⟩, q, rfl, hz, hl, hq, rfl⟩ := hc
  obtain ⟨x, y, u, rfl, hx, hy, hu⟩ := da3_ hd
  refine q_asg kn (d_call (da_cons (d_var rfl hx) (da_cons (d_var rfl hu) da_nil)) ⟨_, _, _, rfl, hq, rfl⟩) fun v F1 H1 s1 hv => ?_
  have hy1 := hy.ex s1.ff
  have hu1 := hu.ex s1.ff
  have hl' : (src q b).length ≤ 1000 := hl
  exact k_fin (Q := Q) hQ s1.kn (d_eq (d_slS (d_var rfl hy1) (do_some (d_st0 (d_var rfl hu1))) (do_some (d_add (d_st0 (d_var rfl hu1)) (d_lenS (d_var rfl hv) (szS (Nat.le_trans hl' (by decide)))))) (szS hz)) (d_var rfl hv))
def c_w_done (ds : List PyData) (r : PyData) : Prop := ∃ (rs : List Rule) (z : Str) (s : WStep) (q : Rule), ds = [rulesD rs, .str z, stepD s] ∧ z.length ≤ 100000 ∧ (src q s.2.2).length ≤ 1000 ∧ (gol q s.2.2).length ≤ 1000 ∧ rs[s.2.1]? = some q ∧ r = .str (doneR q z s)
theorem cl__law_w_done (S : Env P w K mg base) : Cl P w K mg base 2 "_law_w_done" ["rules", "word", "step"] (SpD c_w_done) := mk_cl S.fun__law_w_done S.glo__law_w_done sc__law_w_done (fun _ _ _ _ _ _ us hl => match us, hl with | [_, _, _], _ => rfl) (SpD.len fun _ _ ⟨_, _, _, _, e, _⟩ => e ▸ rfl) fun cdv A outer s H vs Q E hr h => by
  have nd := sc__law_w_done.nd
  refine ⟨_, (pss_one (ps_ret (pe_op op_add_str (pe_op op_add_str (pe_slice (r := rSlS) sl_str (pv 1) po_none (po_some (pe_ix (r := rIxT K) ix_tup (pv 2) pe_int (fun _ _ => rfl)))) (pe_cl (cl__law_w_goal S) hr (by decide) pass_none (by rfl) (pa_cons (pv 0) (pa_cons (pv 2) pa_nil)))) (pe_slice (r := rSlS) sl_str (pv 1) (po_some (pe_op op_add (pe_ix (r := rIxT K) ix_tup (pv 2) pe_int (fun _ _ => rfl)) (pe_callB (r := rLenSQ) (id := "len") call_len_str (by rfl) S.free_len (by decide +kernel) (pa_cons (pe_cl (cl__law_w_source S) hr (by decide) pass_none (by rfl) (pa_cons (pv 0) (pa_cons (pv 2) pa_nil))) pa_nil)))) po_none)))), ?_⟩
  obtain ⟨F0, ds, r, e0, hd, hc, hQ⟩ := h
  have kn := Kn.start e0
  obtain ⟨rs, z, ⟨p, n, b⟩, q, rfl, hz, hl, hg, hq, rfl⟩ := hc
  obtain ⟨x, y, u, rfl, hx, hy, hu⟩ := da3_ hd
  have c1 := cutS_len_le z none (some ((p : Nat) : Int)) hz
  have c2 := cutS_len_le z (some ((p : Nat) + ((src q b).length : Nat) : Int)) none hz
  have hg' : (gol q b).length ≤ 1000 := hg
  have hl' : (src q b).length ≤ 1000 := hl
  refine k_fin (Q := Q) hQ kn (d_cat (d_cat (d_slS (d_var rfl hy) do_none (do_some (d_st0 (d_var rfl hu))) (szS hz)) (d_call (da_cons (d_var rfl hx) (da_cons (d_var rfl hu) da_nil)) ⟨_, _, _, rfl, hq, rfl⟩) ?_) (d_slS (d_var rfl hy) (do_some (d_add (d_st0 (d_var rfl hu)) (d_lenS (d_call (da_cons (d_var rfl hx) (da_cons (d_var rfl hu) da_nil)) ⟨_, _, _, rfl, hq, rfl⟩) (szS (Nat.le_trans hl' (by decide)))))) do_none (szS hz)) ?_)
  · exact Nat.le_trans (Nat.add_le_add c1 hg') (by decide)
  · rw [app_len]
    exact Nat.le_trans (Nat.add_le_add (Nat.add_le_add c1 hg') c2) (by decide)
def c_w_end (ds : List PyData) (r : PyData) : Prop := ∃ (rs : List Rule) (z : Str) (ss : List WStep), ds = [rulesD rs, .str z, stepsD ss] ∧ BkOk rs ∧ WyOk rs z ss ∧ r = .str (endW rs z ss)
theorem cl__law_w_end (S : Env P w K mg base) : Cl P w K mg base 3 "_law_w_end" ["rules", "word", "steps"] (SpD c_w_end) := mk_cl S.fun__law_w_end S.glo__law_w_end sc__law_w_end (fun _ _ _ _ _ _ us hl => match us, hl with | [_, _, _], _ => rfl) (SpD.len fun _ _ ⟨_, _, _, e, _⟩ => e ▸ rfl) fun cdv A outer s H vs Q E hr h => by
  have nd := sc__law_w_end.nd
  refine ⟨_, (pss_cons (ps_for (passes_of rfl) rfl (pi_listK (K := K) rfl (pv 2)) (pg_name (i := 3) nd rfl (by first | exact Or.inl rfl | exact Or.inr rfl))
    (pss_one (ps_set (i := 1) nd rfl (by first | exact Or.inl rfl | exact Or.inr rfl) (pe_cl (cl__law_w_done S) hr (by decide) pass_none (by rfl) (pa_cons (pv 0) (pa_cons (pv 1) (pa_cons (pv 3) pa_nil)))))))
    (pss_one (ps_ret (pv 1)))), ?_⟩
  obtain ⟨F0, ds, r, e0, hd, hc, hQ⟩ := h
  have kn := Kn.start e0
  obtain ⟨rs, z, ss, rfl, ok, wok, rfl⟩ := hc
  obtain ⟨x, y, u, rfl, hx, hy, hu⟩ := da3_ hd
  cases hy.str_
  refine q_for kn (wk_list (d_var rfl hu)) (fun i σ' F' H' => (∃ (zi : Str) (y4 : Option V), σ' = [some x, some (.str zi), some u, y4] ∧ WyOk rs zi (ss.drop i) ∧ endW rs zi (ss.drop i) = endW rs z ss) ∧ Dt F' x (rulesD rs)) ?_ ?_ ?_ ?_
  · intro F1 H1 s1
    exact ⟨⟨z, none, rfl, wok, rfl⟩, hx.ex s1.ff⟩
  · rintro i σ' F' H' H2 ⟨hσ, g1⟩ kn' e
    exact ⟨hσ, g1.ex (kn'.step (H1 := H2) e).ff⟩
  · rintro i d y σ' F' H' hi kn' eF hd ⟨⟨zi, y4, rfl, wk, ew⟩, g1⟩ N hN
    obtain ⟨st, hst, rfl⟩ := map_at hi
    rw [drop_at hst] at wk ew
    obtain ⟨zl, q, hq, hcan, wk'⟩ := wk
    have rq := ok.at_ hq
    rw [endW_c hq] at ew
    refine k_asg kn' (d_call (da_cons (d_var rfl g1) (da_cons (d_var rfl (.str _)) (da_cons (d_var rfl hd) da_nil))) ⟨_, _, _, _, rfl, Nat.le_trans zl (by decide), rq.sl _, rq.gl _, hq, rfl⟩) fun v F1 H1 s1 hv => ?_
    cases hv.str_
    exact hN _ F1 H1 s1.kn s1.ff ⟨⟨_, _, rfl, wk', ew⟩, g1.ex s1.ff⟩
  · rintro σ' F' H' kn' eF ⟨⟨zi, y4, rfl, wk, ew⟩, g1⟩
    rw [List.length_map, List.drop_length] at ew
    have e : zi = endW rs z ss := ew
    subst e
    exact k_fin (Q := Q) hQ kn' (d_var rfl (.str _))
end
end K10
namespace K10
open PySem PySem.Spec PyProof.Rows L2 Evl WB
section
variable {P : Program} {w : World} {K : PySem.W.Frag} {mg : Str → Option Value} {base : Heap}
def stD (xs : List Int) (a b c : Int) : PyData := .list [.list (xs.map .int), .int a, .int b, .int c]
theorem m_len {α : Type} {k : α → Nat} {args : α → Hp → List V → Prop} {res : α → Hp → V → Prop} {n : Nat} (h : ∀ x F vs, args x F vs → vs.length = n) (vs : List V) (H : Hp) (Q : VK) (E : XK) (s : SpM k args res vs H Q E) : vs.length = n + 1 := by
  obtain ⟨F, x, l, s, m, r, rfl, _, _, _, _, _, h1, _⟩ := s
  rw [List.length_cons, h _ _ _ h1]
theorem st_dt {H : Hp} {l s : Addr} {xs : List Int} {a b c : Int} (h1 : H l = some (.lst [.ref s, .int a, .int b, .int c])) (h2 : H s = some (.lst (xs.map V.int))) : Dt H (.ref l) (stD xs a b c) := .lst h1 (.cons (.lst h2 (DtAll.ints xs)) (.cons (.int _) (.cons (.int _) (.cons (.int _) .nil))))
theorem ints_lay : ∀ xs : List Int, PyData.canLayAll0 (xs.map PyData.int) = true
  | [] => by simp [PyData.canLayAll0]
  | x :: xs => by simp [PyData.canLayAll0, PyData.canLay0, ints_lay xs]
theorem ints_depth : ∀ xs : List Int, PyData.depthAll (xs.map PyData.int) = 0
  | [] => by simp [PyData.depthAll]
  | x :: xs => by simp [PyData.depthAll, PyData.depth, ints_depth xs]
theorem ints_plain : ∀ xs : List Int, plainDs (xs.map PyData.int) = true
  | [] => rfl
  | x :: xs => by
    rw [List.map_cons]
    unfold plainDs
    rw [ints_plain xs]
    rfl
theorem ints_shaped (xs : List Int) : SeqAt.shaped (.list (xs.map PyData.int)) = true := by
  show (PyData.canLay0 (.list (xs.map PyData.int)) && decide (PyData.depth (.list (xs.map PyData.int)) ≤ 64)) = true
  rw [Bool.and_eq_true]
  refine ⟨by simp only [PyData.canLay0]; exact ints_lay xs, decide_eq_true ?_⟩
  simp only [PyData.depth, ints_depth]
  omega
section
variable {σ : L2.St} {H : Hp} {l s : Addr} {te : TE} {D : Ends} {rest : TS} {i j : Nat} {k z : Int} {vs : List V}
theorem k_stset (hσ : σ[i]? = some (some (.ref l))) (he : EvD te σ H (.int z)) (hl : H l = some (.lst vs)) (hj : ixN vs.length k = some j) (k' : ∀ H1, Ex H H1 → D.nx σ (upd H1 l (.lst (vs.set j (.int z))))) : tAsg te (gSub (tVar i) (tC (.int k)) rSetL) D σ H := he H (Ex.refl H) _ fun v H1 e hv => by
  cases hv.int_
  exact ⟨.ref l, hσ, l, vs, k, j, rfl, rfl, e _ _ hl, hj, k' H1 e⟩
theorem q_stset (hσ : σ[i]? = some (some (.ref l))) (he : EvD te σ H (.int z)) (hl : H l = some (.lst vs)) (hj : ixN vs.length k = some j) (k' : ∀ H1, Ex H H1 → rest D σ (upd H1 l (.lst (vs.set j (.int z))))) : tSeq (tAsg te (gSub (tVar i) (tC (.int k)) rSetL)) rest D σ H := k_stset (D := { D with nx := rest D }) hσ he hl hj k'
theorem q_asgE (he : EvD te σ H (.int z)) (k' : ∀ H1, Ex H H1 → rest D (σ.set i (some (.int z))) H1) : tSeq (tAsg te (gName i)) rest D σ H := he H (Ex.refl H) _ fun v H1 e hv => by
  cases hv.int_
  exact k' H1 e
theorem k_retE (he : EvD te σ H (.int z)) (k' : ∀ H1, Ex H H1 → D.rt (.int z) H1) : tRet te D σ H := he H (Ex.refl H) _ fun v H1 e hv => by
  cases hv.int_
  exact k' H1 e
theorem q_pop0 {x : V} (ha : Ev te σ H (.ref s)) (hs : H s = some (.lst (x :: vs))) (k' : ∀ H1, Ex H H1 → rest D (σ.set i (some x)) (upd H1 s (.lst vs))) : tSeq (tAsg (tBM K "list" rPopAt te (tCons (tC (.int 0)) tNil)) (gName i)) rest D σ H := ha H (Ex.refl H) _ fun H1 e =>
  ⟨Or.inl ⟨rfl, _, sq_of (e _ _ hs)⟩, s, x :: vs, 0, 0, x, rfl, rfl, e _ _ hs, by decide, by decide, by
    have z : seqIndex? 0 (x :: vs).length = some (0 : Int).toNat := seqIndex_of (by omega) (by simp)
    exact z, rfl, k' H1 e⟩
end
theorem fmod_in {i j : Int} (h : 0 < j) : 0 ≤ i.fmod j ∧ i.fmod j < j := by
  rw [Int.fmod_eq_emod_of_nonneg i (by omega)]
  exact ⟨Int.emod_nonneg _ (by omega), Int.emod_lt_of_pos _ h⟩
theorem exm_upd {l s a : Addr} {H H1 : Hp} {o : HO} (e : ExM (Ms l s) H H1) (ha : a = l ∨ a = s) (hh : H1 a ≠ none) : ExM (Ms l s) H (upd H1 a o) := ⟨fun b u n h => by
  rw [upd_ne fun z => n (by rw [z]; exact ha)]
  exact e.k b u n h, fun b h => by
  by_cases z : b = a
  · rw [z, upd_same] at h; cases h
  · rw [upd_ne z] at h; exact e.d b h⟩
abbrev ADr : Nat → Hp → List V → Prop := fun m H vs => 1 ≤ m ∧ m < 1073741824 ∧ vs = [.int (m : Nat)]
abbrev RDr : Nat → Hp → V → Prop := fun m _ v => ∃ d : Nat, v = .int (d : Nat) ∧ d < m
theorem cl__law_draw (S : Env P w K mg base) : Cl P w K mg base 1 "_law_draw" ["stream", "many"] (SpM (fun _ => 1) ADr RDr) := mk_cl S.fun__law_draw S.glo__law_draw sc__law_draw (fun _ _ _ _ _ _ us hl => match us, hl with | [_, _], _ => rfl) (m_len fun _ _ _ ⟨_, _, e⟩ => by rw [e]; rfl) fun cdv A outer s H vs Q E hr h => by
  have nd := sc__law_draw.nd
  refine ⟨_, (pss_cons (ps_asg (pe_op op_add (pe_ix (r := rIxL K) ix_list (pv 0) pe_int (fun _ _ => rfl)) pe_int) (pg_sub (pv 0) pe_int set_list))
    (pss_cons (ps_while (passes_of rfl) (PW.pt (pw_and (pt_cmpR op_eq (pe_ix (r := rIxL K) ix_list (pv 0) pe_int (fun _ _ => rfl)) pe_int (nomark _)) (pw_and1 (pt_cmpR (r := rNeD K) (op_neD hr.units) (pe_ix (r := rIxL K) ix_list (pv 0) pe_int (fun _ _ => rfl)) (pe_lst pa_nil) (nomark _)))))
    (pss_cons (ps_set (i := 2) nd rfl (by first | exact Or.inl rfl | exact Or.inr rfl) (pe_bmK (K := K) (r := rPopAt) rfl PySem.F.plainAttrs_list PySem.F.slot_list_pop PySem.F.type_list_pop mt_popAt (pe_ix (r := rIxL K) ix_list (pv 0) pe_int (fun _ _ => rfl)) (pa_cons pe_int pa_nil)))
    (pss_cons (ps_asg (pe_op op_modN (pe_callTy (r := rIntQ) (T := "int") call_int1 (by rfl) S.free_int (by decide +kernel) (pa_cons (pe_op op_add (pe_op op_add (pe_op op_mul (pe_ix (r := rIxL K) ix_list (pv 0) pe_int (fun _ _ => rfl)) pe_int) (pv 2)) pe_int) pa_nil)) pe_int) (pg_sub (pv 0) pe_int set_list))
    (pss_one (ps_asg (pe_ifExp (pt_cmpR op_ge (pv 2) (pe_op op_pow pe_int pe_int) (nomark _)) (pv 2) pe_int) (pg_sub (pv 0) pe_int set_list))))))
    (pss_cons (ps_if (pt_cmpR op_gt (pe_ix (r := rIxL K) ix_list (pv 0) pe_int (fun _ _ => rfl)) pe_int (nomark _)) (pss_cons (ps_set (i := 3) nd rfl (by first | exact Or.inl rfl | exact Or.inr rfl) (pe_op op_modN (pe_callTy (r := rIntQ) (T := "int") call_int1 (by rfl) S.free_int (by decide +kernel) (pa_cons (pe_ix (r := rIxL K) ix_list (pv 0) pe_int (fun _ _ => rfl)) pa_nil)) (pv 1)))
    (pss_cons (ps_asg (pe_op op_fdivN (pe_ix (r := rIxL K) ix_list (pv 0) pe_int (fun _ _ => rfl)) (pv 1)) (pg_sub (pv 0) pe_int set_list))
    (pss_one (ps_ret (pv 3))))) pss_nil)
    (pss_cons (ps_set (i := 4) nd rfl (by first | exact Or.inl rfl | exact Or.inr rfl) (pe_op op_modN (pe_callTy (r := rIntQ) (T := "int") call_int1 (by rfl) S.free_int (by decide +kernel) (pa_cons (pe_op op_pow (pe_op op_add (pe_op op_add (pe_ix (r := rIxL K) ix_list (pv 0) pe_int (fun _ _ => rfl)) (pe_op op_mul pe_int (pe_ix (r := rIxL K) ix_list (pv 0) pe_int (fun _ _ => rfl)))) pe_int) pe_int) pa_nil)) pe_int))
    (pss_one (ps_ret (pe_op op_modN (pe_op op_modN (pe_callTy (r := rIntQ) (T := "int") call_int1 (by rfl) S.free_int (by decide +kernel) (pa_cons (pe_op op_pow (pe_op op_add (pe_op op_add (pe_op op_mul (pv 4) pe_int) (pe_op op_mul pe_int (pe_ix (r := rIxL K) ix_list (pv 0) pe_int (fun _ _ => rfl)))) pe_int) pe_int) pa_nil)) pe_int) (pv 1)))))))), ?_⟩
  obtain ⟨F0, mm, l, s, n, r, rfl, e0, fl, fs, ⟨xs, a, b, c, hl, hs, ha, hb, hbn, hc, hc2⟩, hn, ⟨m1, m2, rfl⟩, hQ⟩ := h
  have ls : l ≠ s := fun z => by rw [z, hs] at hl; cases xs with
    | nil => cases hl
    | cons x r => cases hl
  refine q_stset (j := 2) (z := b + 1) rfl (d_add (d_ixL (d_var rfl (st_dt hl hs)) d_int rfl) d_int) hl rfl fun H1 e1 => ?_
  have hl1 : (upd H1 l (.lst [.ref s, .int a, .int (b + 1), .int c])) l = _ := upd_same
  have hs1 : (upd H1 l (.lst [.ref s, .int a, .int (b + 1), .int c])) s = some (.lst (xs.map V.int)) := by rw [upd_ne (Ne.symm ls)]; exact e1 _ _ hs
  have em1 : ExM (Ms l s) H (upd H1 l (.lst [.ref s, .int a, .int (b + 1), .int c])) := exm_upd (ExM.of e1) (.inl rfl) (by rw [e1 _ _ hl]; intro z; cases z)
  refine ⟨fun m σ' H' => ∃ (xs' : List Int) (a' c' : Int) (y2 : Option V), m = xs'.length ∧ σ' = [some (.ref l), some (.int (mm : Nat)), y2, none, none] ∧ H' l = some (.lst [.ref s, .int a', .int (b + 1), .int c']) ∧ H' s = some (.lst (xs'.map V.int)) ∧ 0 ≤ a' ∧ 0 ≤ c' ∧ c' < 2147483647 ∧ ExM (Ms l s) H H', ⟨_, xs, a, c, none, rfl, rfl, hl1, hs1, ha, hc, hc2, em1⟩, ?_⟩
  rintro m σ' H' ⟨xs', a', c', y2, rfl, rfl, gl, gs, ga, gc, gc2, em⟩
  have tst : ((decide (V.int a' = V.int 0)) && (!PyData.eqv (.list (xs'.map .int)) (.list []))) = decide (a' = 0 ∧ xs' ≠ []) := by
    have e : PyData.eqv (.list (xs'.map .int)) (.list []) = decide (xs' = []) := by
      cases xs' with
      | nil => simp [PyData.eqv, PyData.eqvAll]
      | cons x r => simp [PyData.eqv, PyData.eqvAll]
    rw [e]
    by_cases h : a' = 0
    · rw [h]
      by_cases h2 : xs' = []
      · rw [h2]; simp
      · simp [h2]
    · have : ¬ (V.int a' = V.int 0) := fun z => h (V.int.inj z)
      have e2 : ¬ (a' = 0 ∧ xs' ≠ []) := fun z => h z.1
      rw [decide_eq_false this, decide_eq_false e2]
      rfl
  refine et_is (et_and (et_test (EvD.evb (d_eq (x := .int a') (y := .int 0) (d_ixL (d_var rfl (st_dt gl gs)) d_int rfl) d_int))) (fun _ => et_test (EvD.evb (d_neD (d1 := .list (xs'.map .int)) (d2 := .list []) (d_ixL (d_var rfl (st_dt gl gs)) d_int rfl) (d_lst da_nil) (by unfold plainD; exact ints_plain _) rfl (ints_shaped _) (ints_shaped []))))) tst H' (Ex.refl H') _ fun H2 e2 => ?_
  have gl2 := e2 _ _ gl
  have gs2 := e2 _ _ gs
  have em2 := em.trans (ExM.of e2)
  by_cases hw : a' = 0 ∧ xs' ≠ []
  · rw [if_pos (decide_eq_true hw)]
    obtain ⟨rfl, hx⟩ := hw
    cases xs' with
    | nil => exact absurd rfl hx
    | cons x xr =>
      refine ⟨fun σ' H' => ∃ (xs' : List Int) (a' c' : Int) (y2 : Option V), xs'.length < (x :: xr).length ∧ σ' = [some (.ref l), some (.int (mm : Nat)), y2, none, none] ∧ H' l = some (.lst [.ref s, .int a', .int (b + 1), .int c']) ∧ H' s = some (.lst (xs'.map V.int)) ∧ 0 ≤ a' ∧ 0 ≤ c' ∧ c' < 2147483647 ∧ ExM (Ms l s) H H', fun σ' H' ⟨ys, a2, c2, y, q1, q2⟩ => ⟨_, q1, ys, a2, c2, y, rfl, q2⟩, ?_⟩
      refine q_pop0 (ev_op (ev_var rfl) ev_c (rv_ixL (SqL.of gl2) rfl)) gs2 fun H3 e3 => ?_
      have gl3 : (upd H3 s (.lst (xr.map V.int))) l = some (.lst [.ref s, .int 0, .int (b + 1), .int c']) := by rw [upd_ne ls]; exact e3 _ _ gl2
      have gs3 : (upd H3 s (.lst (xr.map V.int))) s = some (.lst (xr.map V.int)) := upd_same
      have em3 : ExM (Ms l s) H (upd H3 s (.lst (xr.map V.int))) := exm_upd (em2.trans (ExM.of e3)) (.inr rfl) (by rw [e3 _ _ gs2]; intro z; cases z)
      generalize upd H3 s (.lst (xr.map V.int)) = H3' at gl3 gs3 em3
      have cb := fmod_in (i := c' * 65599 + x + 7) (j := 2147483647) (by decide)
      refine q_stset (j := 3) (z := (c' * 65599 + x + 7).fmod 2147483647) rfl (d_opI (d_intI (d_add (d_add (d_opI (d_ixL (d_var rfl (st_dt gl3 gs3)) d_int rfl) d_int (.inr ⟨by decide, by decide⟩)) (d_var rfl (.int _))) d_int)) d_int (by decide)) gl3 rfl fun H4 e4 => ?_
      have gl4 : (upd H4 l (.lst [.ref s, .int 0, .int (b + 1), .int ((c' * 65599 + x + 7).fmod 2147483647)])) l = _ := upd_same
      have gs4 : (upd H4 l (.lst [.ref s, .int 0, .int (b + 1), .int ((c' * 65599 + x + 7).fmod 2147483647)])) s = some (.lst (xr.map V.int)) := by rw [upd_ne (Ne.symm ls)]; exact e4 _ _ gs3
      have em4 : ExM (Ms l s) H (upd H4 l (.lst [.ref s, .int 0, .int (b + 1), .int ((c' * 65599 + x + 7).fmod 2147483647)])) := exm_upd (em3.trans (ExM.of e4)) (.inl rfl) (by rw [e4 _ _ gl3]; intro z; cases z)
      show tAsg _ _ _ _ (upd H4 l (.lst [.ref s, .int 0, .int (b + 1), .int ((c' * 65599 + x + 7).fmod 2147483647)]))
      generalize upd H4 l (.lst [.ref s, .int 0, .int (b + 1), .int ((c' * 65599 + x + 7).fmod 2147483647)]) = H4' at gl4 gs4 em4
      have hz : 0 ≤ (if x ≥ 10 ^ 18 then x else 0) := by
        split
        · have : (0 : Int) ≤ 10 ^ 18 := by decide
          omega
        · exact Int.le_refl _
      refine k_stset (j := 1) (z := if x ≥ 10 ^ 18 then x else 0) rfl (d_if (t_val (d_cmp (d_var rfl (.int _)) ((d_opI d_int d_int ⟨by decide, by decide, by decide⟩).is (e := .int (10 ^ 18)) (congrArg PyData.int (by decide))))) (fun e => (d_var rfl (.int x)).is ?_) fun e => d_int.is ?_) gl4 rfl fun H5 e5 => ?_
      · rw [if_pos (of_decide_eq_true e)]
      · rw [if_neg (of_decide_eq_false e)]
      · refine ⟨xr, _, _, some (.int x), by simp, rfl, upd_same, ?_, hz, cb.1, cb.2, exm_upd (em4.trans (ExM.of e5)) (.inl rfl) (by rw [e5 _ _ gl4]; intro z; cases z)⟩
        rw [upd_ne (Ne.symm ls)]
        exact e5 _ _ gs4
  · rw [if_neg (by rw [decide_eq_false hw]; decide)]
    have mpos : (0 : Int) < (mm : Nat) := by omega
    have hn' : n + 1 ≤ 1000000 := hn
    have fin : ∀ (H' : Hp) (z : Int), ExM (Ms l s) H H' → (∃ xs a c, H' l = some (.lst [.ref s, .int a, .int (b + 1), .int c]) ∧ H' s = some (.lst ((xs : List Int).map V.int)) ∧ 0 ≤ a ∧ 0 ≤ c ∧ c < 2147483647) → 0 ≤ z → z < (mm : Nat) → Q (.int z) H' := fun H' z e ⟨xs, a, c, q1, q2, q3, q4, q5⟩ z0 z1 => by
      refine hQ _ H' e ⟨xs, a, b + 1, c, q1, q2, q3, by omega, by show (b + 1 : Int) ≤ ((n + 1 : Nat) : Int); omega, q4, q5⟩ ⟨z.toNat, ?_, by omega⟩
      rw [show ((z.toNat : Nat) : Int) = z by omega]
    show tSeq _ _ _ _ _
    refine t_val (d_cmp (d_ixL (d_var rfl (st_dt gl2 gs2)) d_int rfl) d_int) H2 (Ex.refl H2) _ fun H3 e3 => ?_
    have gl3 := e3 _ _ gl2
    have gs3 := e3 _ _ gs2
    have em3 := em2.trans (ExM.of e3)
    by_cases pos : a' > 0
    · rw [if_pos (decide_eq_true pos)]
      have db := fmod_in (i := a') mpos
      refine q_asgE (d_opI (d_intI (d_ixL (d_var rfl (st_dt gl3 gs3)) d_int rfl)) (d_var rfl (.int _)) (by omega)) fun H4 e4 => ?_
      have gl4 := e4 _ _ gl3
      have gs4 := e4 _ _ gs3
      refine q_stset (j := 1) rfl (d_opI (d_ixL (d_var rfl (st_dt gl4 gs4)) d_int rfl) (d_var rfl (.int _)) ⟨by omega, by omega⟩) gl4 rfl fun H5 e5 => ?_
      refine k_retE (d_var rfl (.int _)) fun H6 e6 => ?_
      refine fin H6 _ ((exm_upd ((em3.trans (ExM.of e4)).trans (ExM.of e5)) (.inl rfl) (by rw [e5 _ _ gl4]; intro z; cases z)).trans (ExM.of e6)) ⟨xs', _, c', e6 _ _ upd_same, e6 _ _ (by rw [upd_ne (Ne.symm ls)]; exact e5 _ _ gs4), ?_, gc, gc2⟩ db.1 db.2
      exact Int.fdiv_nonneg ga (by omega)
    · rw [if_neg (by rw [decide_eq_false pos]; decide)]
      have b6 : b + 1 ≤ 1000000 := by omega
      refine q_asgE (d_opI (d_intI (d_opI (d_add (d_add (d_ixL (d_var rfl (st_dt gl3 gs3)) d_int rfl) (d_opI d_int (d_ixL (d_var rfl (st_dt gl3 gs3)) d_int rfl) (.inl ⟨by decide, by decide⟩))) d_int) d_int ⟨by decide, by decide, by omega⟩)) d_int (by decide)) fun H4 e4 => ?_
      have gl4 := e4 _ _ gl3
      have gs4 := e4 _ _ gs3
      generalize hm : Int.fmod ((c' + 6151 * (b + 1) + 130003) ^ Int.toNat 5) 2147483629 = mx
      have mb : 0 ≤ mx ∧ mx < 2147483629 := by rw [← hm]; exact fmod_in (by decide)
      refine k_retE (d_opI (d_opI (d_intI (d_opI (d_add (d_add (d_opI (d_var rfl (.int _)) d_int (.inr ⟨by decide, by decide⟩)) (d_opI d_int (d_ixL (d_var rfl (st_dt gl4 gs4)) d_int rfl) (.inl ⟨by decide, by decide⟩))) d_int) d_int ⟨by decide, by decide, by omega⟩)) d_int (by decide)) (d_var rfl (.int _)) (by omega)) fun H5 e5 => ?_
      exact fin H5 _ ((em3.trans (ExM.of e4)).trans (ExM.of e5)) ⟨xs', a', c', e5 _ _ gl4, e5 _ _ gs4, ga, gc, gc2⟩ (fmod_in mpos).1 (fmod_in mpos).2
end
end K10
namespace K10
open PySem PySem.Spec PyProof.Rows L2 Evl WB
section
variable {P : Program} {w : World} {K : PySem.W.Frag} {mg : Str → Option Value} {base : Heap}
theorem pa_dr {σ : L2.St} {F : Hp} {te : TE} {m : Nat} (h : EvD te σ F (.int (m : Nat))) (h1 : 1 ≤ m) (h2 : m < 1073741824) : EvPA (tCons te tNil) σ F (ADr m) := fun H1 e _ q =>
  h H1 e _ fun x H2 e2 hx => by
    cases hx.int_
    exact q [.int m] H2 e2 ⟨h1, h2, rfl⟩
theorem mo_dr (m : Nat) : Mo (RDr m) := fun _ _ _ _ h => h
def itemsOf : PyData → List PyData
  | .list ds => ds
  | .tuple ds => ds
  | .str z => letsD z
  | _ => []
abbrev APk : PyData → Hp → List V → Prop := fun x H vs => itemsOf x ≠ [] ∧ (itemsOf x).length ≤ 100000 ∧ ∃ v, vs = [v] ∧ Dt H v x
abbrev RPk : PyData → Hp → V → Prop := fun x H v => ∃ d ∈ itemsOf x, Dt H v d
theorem mo_pk (x : PyData) : Mo (RPk x) := fun _ _ _ e ⟨d, h1, h2⟩ => ⟨d, h1, h2.ex e⟩
theorem d_lenA {σ : L2.St} {F : Hp} {te : TE} {x : PyData} (h : EvD te σ F x) (hn : itemsOf x ≠ []) (hl : (itemsOf x).length ≤ 100000) : EvD (tCB (rLenA K) (tCons te tNil)) σ F (.int ((itemsOf x).length : Nat)) := d_cb (da_cons h da_nil) (cb1 rfl fun H1 v hx Q q => by
  cases hx with
  | lst h2 h3 => exact .inl ⟨_, _, rfl, .inl (SqL.of h2), by rw [h3.len]; exact q⟩
  | tup h2 h3 => exact .inl ⟨_, _, rfl, .inr (SqT.of h2), by rw [h3.len]; exact q⟩
  | str z => exact .inr ⟨z, rfl, by
      have e : (itemsOf (.str z)).length = z.length := by
        show (letsD z).length = _
        unfold letsD
        rw [List.length_map]
        rfl
      rw [e] at hl
      exact sz_of hl, by
      have e : (itemsOf (.str z)).length = z.length := by
        show (letsD z).length = _
        unfold letsD
        rw [List.length_map]
        rfl
      rw [← e]
      exact q⟩
  | _ => exact absurd rfl hn)
theorem cl__law_pick (S : Env P w K mg base) : Cl P w K mg base 2 "_law_pick" ["stream", "some"] (SpM (fun _ => 1) APk RPk) := mk_cl S.fun__law_pick S.glo__law_pick sc__law_pick (fun _ _ _ _ _ _ us hl => match us, hl with | [_, _], _ => rfl) (m_len fun _ _ _ ⟨_, _, _, e, _⟩ => by rw [e]; rfl) fun cdv A outer s H vs Q E hr h => by
  have nd := sc__law_pick.nd
  refine ⟨_, (pss_one (ps_ret (pe_ix (r := rIxA K) ix_any (pv 1) (pe_cl (cl__law_draw S) hr (by decide) pass_none (by rfl) (pa_cons (pv 0) (pa_cons (pe_callB (r := rLenA K) (id := "len") call_len_any (by rfl) S.free_len (by decide +kernel) (pa_cons (pv 1) pa_nil)) pa_nil))) (fun _ _ => rfl)))), ?_⟩
  obtain ⟨F0, x, l, s, n, r, rfl, e0, fl, fs, st, hn, ⟨h1, h2, v, rfl, hv⟩, hQ⟩ := h
  have kn := Kn.startS e0 fl fs st
  have lp : 1 ≤ (itemsOf x).length := List.length_pos_iff.mpr h1
  refine wp_ret (wp_op ⟨v, rfl, wm_call (itemsOf x).length kn st hn rfl (pa_dr (d_lenA (d_var rfl hv) h1 h2) lp (by omega)) (mo_dr _) fun u F1 H1 s1 st1 ⟨d, hd, dl⟩ => ?_⟩)
  subst hd
  have hv1 := hv.ex s1.ff
  have di : (itemsOf x)[d]? = some (itemsOf x)[d] := List.getElem?_eq_getElem dl
  have dm : (itemsOf x)[d] ∈ itemsOf x := List.getElem_mem dl
  generalize (itemsOf x)[d] = dd at di dm
  cases hv1 with
  | lst h3 h4 =>
    obtain ⟨y, hy1, hy2⟩ := h4.get di
    exact .inl ⟨_, _, _, y, rfl, rfl, SqL.of (s1.kn.fh _ _ h3), atI_nat hy1, kM_done hQ (mo_pk _) s1.kn st1 ⟨dd, dm, hy2⟩⟩
  | tup h3 h4 =>
    obtain ⟨y, hy1, hy2⟩ := h4.get di
    exact .inr (.inl ⟨_, _, _, y, rfl, rfl, SqT.of (s1.kn.fh _ _ h3), atI_nat hy1, kM_done hQ (mo_pk _) s1.kn st1 ⟨dd, dm, hy2⟩⟩)
  | str z =>
    have e : (itemsOf (.str z)).length = z.length := by
      show (letsD z).length = _
      unfold letsD
      rw [List.length_map]
      rfl
    obtain ⟨c, hc, rfl⟩ := map_at (show (z.cps.toList.map fun c => PyData.str ⟨#[c]⟩)[d]? = some dd from di)
    exact .inr (.inr ⟨z, _, c, rfl, rfl, by rw [e] at h2; exact sz_of h2, atI_nat hc, kM_done hQ (mo_pk _) s1.kn st1 ⟨_, dm, .str _⟩⟩)
  | _ => exact absurd rfl h1
/-- one letter of z -/
def LetOf (z y : Str) : Prop := ∃ c ∈ z.cps.toList, y = ⟨#[c]⟩
abbrev AMx : Str → Hp → List V → Prop := fun z H vs => z.length ≤ 1000 ∧ vs = [.str z]
abbrev RMx : Str → Hp → V → Prop := fun z H v => ∃ zs : List Str, Dt H v (strsD zs) ∧ zs.length = z.length ∧ ∀ y ∈ zs, LetOf z y
theorem mo_mx (x : Str) : Mo (RMx x) := fun _ _ _ e ⟨d, h1, h2⟩ => ⟨d, h1.ex e, h2⟩
theorem eraseIdx_map_str : ∀ (l : List Str) (j : Nat), (l.map V.str).eraseIdx j = (l.eraseIdx j).map V.str
  | [], j => by simp
  | a :: r, 0 => by simp
  | a :: r, j + 1 => by
    have ih := eraseIdx_map_str r j
    simp [ih]
theorem cl__law_mixed (S : Env P w K mg base) : Cl P w K mg base 2 "_law_mixed" ["stream", "some"] (SpM (fun z : Str => z.length) AMx RMx) := mk_cl S.fun__law_mixed S.glo__law_mixed sc__law_mixed (fun _ _ _ _ _ _ us hl => match us, hl with | [_, _], _ => rfl) (m_len fun _ _ _ ⟨_, e⟩ => by rw [e]; rfl) fun cdv A outer s H vs Q E hr h => by
  have nd := sc__law_mixed.nd
  refine ⟨_, (pss_cons (ps_set (i := 2) nd rfl (by first | exact Or.inl rfl | exact Or.inr rfl) (pe_callTy (r := rListS) (T := "list") (call_list_txt rfl) (by rfl) S.free_list (by decide +kernel) (pa_cons (pv 1) pa_nil)))
    (pss_one (ps_ret (pe_lc (own := [("k", 3)]) rfl nd (pi_range1 rfl S.free_range (pa_cons (pe_callB (r := rLenQ K) (id := "len") call_len_seq (by rfl) S.free_len (by decide +kernel) (pa_cons (pv 2) pa_nil)) pa_nil)) (blkOk_by (N := ["stream", "some", "left", "k"]) (sc := defScope s__law_mixed) (by decide +kernel)) (fun _ _ _ _ _ => (pg_name (i := 3) nd rfl (by first | exact Or.inl rfl | exact Or.inr rfl))) (fun _ _ _ _ _ => pts_nil) (fun _ _ _ _ _ => (pe_bmK (K := K) (r := rPopAt) rfl PySem.F.plainAttrs_list PySem.F.slot_list_pop PySem.F.type_list_pop mt_popAt (pv 2) (pa_cons (pe_cl (cl__law_draw S) hr (by decide) pass_none (by rfl) (pa_cons (pv 0) (pa_cons (pe_callB (r := rLenQ K) (id := "len") call_len_seq (by rfl) S.free_len (by decide +kernel) (pa_cons (pv 2) pa_nil)) pa_nil))) pa_nil))))))), ?_⟩
  obtain ⟨F0, z, l, s, n, r, rfl, e0, fl, fs, st, hn, ⟨h1, rfl⟩, hQ⟩ := h
  have kn := Kn.startS e0 fl fs st
  refine wp_asg ⟨_, rfl, z, rfl, szS (Nat.le_trans h1 (by decide)), fun p hp => ?_⟩
  have Fp : F0 p = none := by
    cases q : F0 p with
    | none => rfl
    | some o => rw [e0 _ _ q] at hp; cases hp
  have kn1 : Kn (Ms l s) F0 H F0 (upd H p (.lst (letsV z))) := kn.upd_ Fp hp
  have st1 : StA l s n (upd H p (.lst (letsV z))) := st.ex (Ex.new hp)
  have hp1 : upd H p (.lst (letsV z)) p = some (.lst (letsV z)) := upd_same
  have zl : (letsV z).length = z.length := by unfold letsV; rw [List.length_map]; rfl
  have hMp : ∀ a, Ms l s a → a ≠ p := fun a m q => st.has a m (by rw [q]; exact hp)
  have emH : ExM (Ms l s) H (upd H p (.lst (letsV z))) := ExM.of (Ex.new hp)
  generalize upd H p (.lst (letsV z)) = H1 at kn1 st1 hp1 emH
  refine wp_ret (wp_lc (wp_rng1 (w_da (da_cons (d_lenL (d_var rfl (dt_own Fp (lets_dt z)))) da_nil) (ex_own kn1 hp1) fun vs H2 e2 hvs => ?_)))
  obtain ⟨x, rfl, hx⟩ := da1_ hvs
  cases hx.int_
  have zl2 : (letsD z).length = z.length := by unfold letsD; rw [List.length_map]; rfl
  have s2 := kn1.step e2
  refine ⟨_, rfl, by omega, by omega, ?_⟩
  rw [zl2]
  refine lc_turns (M2 := fun b => Ms l s b ∨ b = p) (m := z.length) s2.kn (by omega) (fun i acc F' H' => StA l s (n + i) H' ∧ F' p = none ∧ ∃ zs rem : List Str, acc = zs.map V.str ∧ H' p = some (.lst (rem.map V.str)) ∧ rem.length + i = z.length ∧ zs.length = i ∧ (∀ y ∈ zs, LetOf z y) ∧ ∀ y ∈ rem, LetOf z y) ?_ ?_ ?_ ?_ ?_
  · intro a m
    rcases m with m | m
    · exact (st1.ex e2).has a m
    · rw [m, e2 _ _ hp1]; intro z; cases z
  · refine ⟨st1.ex e2, s2.fr _ _ hp1 Fp, [], z.cps.toList.map fun c => ⟨#[c]⟩, rfl, ?_, ?_, rfl, (fun y h => by cases h), fun y h => ?_⟩
    · rw [e2 _ _ hp1, List.map_map]
      rfl
    · rw [List.length_map]; rfl
    · obtain ⟨c, hc, rfl⟩ := List.mem_map.mp h
      exact ⟨c, hc, rfl⟩
  · rintro i acc F' H' H'' ⟨g1, g2, zs, rem, g3, g4, g5⟩ hh
    have st2 := st1.ex e2
    refine ⟨g1.at_ (hh l (st2.has l (.inl rfl))) (hh s (st2.has s (.inr rfl))), g2, zs, rem, g3, ?_, g5⟩
    rw [hh p (by rw [e2 _ _ hp1]; intro z; cases z)]
    exact g4
  · rintro i acc F' H' il al kn' eF em ⟨g1, g2, zs, rem, rfl, g4, g5, g6, g7, g8⟩ Q' hQ'
    have n1 : n + z.length ≤ 1000000 := hn
    refine ⟨.ref p, rfl, Or.inl ⟨rfl, _, sq_of g4⟩, ?_⟩
    have rl : 1 ≤ rem.length := by omega
    refine wm_call1 rem.length kn' g1 (by show n + i + 1 ≤ _; omega) rfl (ex_own kn' g4) ((d_lenL (d_var rfl (dt_own g2 (strs_dt rem)))).is (e := .int (rem.length : Nat)) (by rw [List.length_map])) (fun H v hv F => ⟨rl, by omega, by rw [hv.int_]⟩) (mo_dr _) fun u F3 H3 s3 st3 ⟨d, hd, dl⟩ => ?_
    subst hd
    have ds : rem[d]? = some rem[d] := List.getElem?_eq_getElem dl
    have dm : rem[d] ∈ rem := List.getElem_mem dl
    generalize rem[d] = y at ds dm
    have g4' : H3 p = some (.lst (rem.map V.str)) := s3.hm.k p _ (fun m => hMp p m rfl) g4
    have g2' := s3.fr _ _ g4 g2
    refine ⟨p, rem.map V.str, (d : Nat), d, .str y, rfl, rfl, g4', by omega, by omega, ?_, by rw [List.getElem?_map, ds]; rfl, ?_⟩
    · have z : seqIndex? ((d : Nat) : Int) (rem.map V.str).length = some ((d : Nat) : Int).toNat := seqIndex_of (by omega) (by rw [List.length_map]; omega)
      rw [z]
      rfl
    · have em3 : ExM (fun b => Ms l s b ∨ b = p) H' (upd H3 p (.lst ((rem.map V.str).eraseIdx d))) := ⟨fun a o nm h => by
        rw [upd_ne fun z => nm (.inr z)]
        exact s3.hm.k a o (fun m => nm (.inl m)) h, fun a h => by
        by_cases z : a = p
        · rw [z, upd_same] at h; cases h
        · rw [upd_ne z] at h; exact s3.hm.d a h⟩
      refine hQ' _ F3 _ (s3.kn.upd_ g2' hp) s3.ff em3 s3.fr ⟨?_, g2', zs ++ [y], rem.eraseIdx d, by rw [List.map_append]; rfl, ?_, ?_, by rw [List.length_append, g6]; rfl, fun y' h => ?_, fun y' h => g8 y' (List.mem_of_mem_eraseIdx h)⟩
      · exact st3.at_ (upd_ne (hMp l (.inl rfl))) (upd_ne (hMp s (.inr rfl)))
      · rw [upd_same]
        congr 2
        exact eraseIdx_map_str _ _
      · rw [List.length_eraseIdx, if_pos dl]
        omega
      · rcases List.mem_append.mp h with q | q
        · exact g7 y' q
        · rw [List.mem_singleton.mp q]; exact g8 y dm
  · rintro D acc F' H' kn' eF em frr al ⟨g1, g2, zs, rem, rfl, g4, g5, g6, g7, g8⟩ hD hF hH
    have h0D : H D = none := (emH.trans (ExM.of e2)).d D hH
    exact kM_done hQ (mo_mx _) (kn'.know hF h0D hD) g1 ⟨zs, .lst upd_same (strs_dt zs), g6, g7⟩
end
end K10
namespace K10
open PySem PySem.Spec PyProof.Rows L2 Evl WB
section
variable {P : Program} {w : World} {K : PySem.W.Frag} {mg : Str → Option Value} {base : Heap}
section
variable {σ : L2.St} {F : Hp} {ta tb : TE} {rs : List Rule} {s : WStep} {q : Rule} {E : XK}
/-- len(goal(..)), len(source(..)) -/
theorem d_lenGo (ha : EvD ta σ F (rulesD rs)) (hb : EvD tb σ F (stepD s)) (h : rs[s.2.1]? = some q) (r : RuOk q) : EvD (tCB rLenSQ (tCons (tCall (SpD c_goal) [] E (tCons ta (tCons tb tNil))) tNil)) σ F (.int ((goL rs s : Nat) : Int)) := by
  rw [goL_eq h]
  have l := r.gl s.2.2
  exact d_lenS (d_call (da_cons ha (da_cons hb da_nil)) ⟨_, _, _, rfl, h, rfl⟩) (szS (Nat.le_trans l (by decide)))
theorem d_lenSr (ha : EvD ta σ F (rulesD rs)) (hb : EvD tb σ F (stepD s)) (h : rs[s.2.1]? = some q) (r : RuOk q) : EvD (tCB rLenSQ (tCons (tCall (SpD c_source) [] E (tCons ta (tCons tb tNil))) tNil)) σ F (.int ((srL rs s : Nat) : Int)) := by
  rw [srL_eq h]
  have l := r.sl s.2.2
  exact d_lenS (d_call (da_cons ha (da_cons hb da_nil)) ⟨_, _, _, rfl, h, rfl⟩) (szS (Nat.le_trans l (by decide)))
end
theorem cl__law_w_swapped (S : Env P w K mg base) : Cl P w K mg base 2 "_law_w_swapped" ["rules", "first", "second"] (SpD c_exch) := mk_cl S.fun__law_w_swapped S.glo__law_w_swapped sc__law_w_swapped (fun _ _ _ _ _ _ us hl => match us, hl with | [_, _, _], _ => rfl) (SpD.len fun _ _ ⟨_, _, _, _, _, e, _⟩ => e ▸ rfl) fun cdv A outer s H vs Q E hr h => by
  have nd := sc__law_w_swapped.nd
  refine ⟨_, (pss_cons (ps_set (i := 3) nd rfl (by first | exact Or.inl rfl | exact Or.inr rfl) (pe_op op_sub (pe_callB (r := rLenSQ) (id := "len") call_len_str (by rfl) S.free_len (by decide +kernel) (pa_cons (pe_cl (cl__law_w_goal S) hr (by decide) pass_none (by rfl) (pa_cons (pv 0) (pa_cons (pv 1) pa_nil))) pa_nil)) (pe_callB (r := rLenSQ) (id := "len") call_len_str (by rfl) S.free_len (by decide +kernel) (pa_cons (pe_cl (cl__law_w_source S) hr (by decide) pass_none (by rfl) (pa_cons (pv 0) (pa_cons (pv 1) pa_nil))) pa_nil))))
    (pss_cons (ps_set (i := 4) nd rfl (by first | exact Or.inl rfl | exact Or.inr rfl) (pe_op op_sub (pe_callB (r := rLenSQ) (id := "len") call_len_str (by rfl) S.free_len (by decide +kernel) (pa_cons (pe_cl (cl__law_w_goal S) hr (by decide) pass_none (by rfl) (pa_cons (pv 0) (pa_cons (pv 2) pa_nil))) pa_nil)) (pe_callB (r := rLenSQ) (id := "len") call_len_str (by rfl) S.free_len (by decide +kernel) (pa_cons (pe_cl (cl__law_w_source S) hr (by decide) pass_none (by rfl) (pa_cons (pv 0) (pa_cons (pv 2) pa_nil))) pa_nil))))
    (pss_cons (ps_if (pt_cmpR op_le (pe_op op_add (pe_ix (r := rIxT K) ix_tup (pv 2) pe_int (fun _ _ => rfl)) (pe_callB (r := rLenSQ) (id := "len") call_len_str (by rfl) S.free_len (by decide +kernel) (pa_cons (pe_cl (cl__law_w_source S) hr (by decide) pass_none (by rfl) (pa_cons (pv 0) (pa_cons (pv 2) pa_nil))) pa_nil))) (pe_ix (r := rIxT K) ix_tup (pv 1) pe_int (fun _ _ => rfl)) (nomark _)) (pss_one (ps_ret (pe_lst (pa_cons (pv 2) (pa_cons (pe_tup (pa_cons (pe_op op_add (pe_ix (r := rIxT K) ix_tup (pv 1) pe_int (fun _ _ => rfl)) (pv 4)) (pa_cons (pe_ix (r := rIxT K) ix_tup (pv 1) pe_int (fun _ _ => rfl)) (pa_cons (pe_ix (r := rIxT K) ix_tup (pv 1) pe_int (fun _ _ => rfl)) pa_nil)))) pa_nil))))) pss_nil)
    (pss_cons (ps_if (pt_cmpR op_le (pe_op op_add (pe_ix (r := rIxT K) ix_tup (pv 1) pe_int (fun _ _ => rfl)) (pe_callB (r := rLenSQ) (id := "len") call_len_str (by rfl) S.free_len (by decide +kernel) (pa_cons (pe_cl (cl__law_w_goal S) hr (by decide) pass_none (by rfl) (pa_cons (pv 0) (pa_cons (pv 1) pa_nil))) pa_nil))) (pe_ix (r := rIxT K) ix_tup (pv 2) pe_int (fun _ _ => rfl)) (nomark _)) (pss_one (ps_ret (pe_lst (pa_cons (pe_tup (pa_cons (pe_op op_sub (pe_ix (r := rIxT K) ix_tup (pv 2) pe_int (fun _ _ => rfl)) (pv 3)) (pa_cons (pe_ix (r := rIxT K) ix_tup (pv 2) pe_int (fun _ _ => rfl)) (pa_cons (pe_ix (r := rIxT K) ix_tup (pv 2) pe_int (fun _ _ => rfl)) pa_nil)))) (pa_cons (pv 1) pa_nil))))) pss_nil)
    (pss_one (ps_ret pe_non)))))), ?_⟩
  obtain ⟨F0, ds, r, e0, hd, hc, hQ⟩ := h
  have kn := Kn.start e0
  obtain ⟨rs, s, t, q1, q2, rfl, h1, h2, r1, r2, rfl⟩ := hc
  obtain ⟨x, y, u, rfl, hx, hy, hu⟩ := da3_ hd
  refine q_asg kn (d_sub (d_lenGo (d_var rfl hx) (d_var rfl hy) h1 r1) (d_lenSr (d_var rfl hx) (d_var rfl hy) h1 r1)) fun v1 F1 H1 s1 g1 => ?_
  refine q_asg s1.kn (d_sub (d_lenGo (d_var rfl (hx.ex s1.ff)) (d_var rfl (hu.ex s1.ff)) h2 r2) (d_lenSr (d_var rfl (hx.ex s1.ff)) (d_var rfl (hu.ex s1.ff)) h2 r2)) fun v2 F2 H2 s2 g2 => ?_
  have t2 := s1.trans s2
  have hx2 := hx.ex t2.ff
  have hy2 := hy.ex t2.ff
  have hu2 := hu.ex t2.ff
  have g1 := g1.ex s2.ff
  refine q_if s2.kn (t_val (d_cmp (d_add (d_st0 (d_var rfl hu2)) (d_lenSr (d_var rfl hx2) (d_var rfl hu2) h2 r2)) (d_st0 (d_var rfl hy2)))) (fun hb F3 H3 s3 => ?_) fun hb F3 H3 s3 => ?_
  · have hb' : t.1 + srL rs t ≤ s.1 := by have := of_decide_eq_true hb; omega
    rw [exch_1 hb'] at hQ
    refine k_fin (Q := Q) hQ s3.kn ((d_lst (da_cons (d_var rfl (hu2.ex s3.ff)) (da_cons (d_tup (da_cons (d_add (d_st0 (d_var rfl (hy2.ex s3.ff))) (d_var rfl (g2.ex s3.ff))) (da_cons (d_st1 (d_var rfl (hy2.ex s3.ff))) (da_cons (d_st2 (d_var rfl (hy2.ex s3.ff))) da_nil)))) da_nil))).is ?_)
    have e : ((s.1 : Nat) : Int) + (((goL rs t : Nat) : Int) - ((srL rs t : Nat) : Int)) = ((s.1 + goL rs t - srL rs t : Nat) : Int) := by omega
    rw [e]
    rfl
  · have hb' : ¬ t.1 + srL rs t ≤ s.1 := by have := of_decide_eq_false hb; omega
    refine q_if s3.kn (t_val (d_cmp (d_add (d_st0 (d_var rfl (hy2.ex s3.ff))) (d_lenGo (d_var rfl (hx2.ex s3.ff)) (d_var rfl (hy2.ex s3.ff)) h1 r1)) (d_st0 (d_var rfl (hu2.ex s3.ff))))) (fun hb2 F4 H4 s4 => ?_) fun hb2 F4 H4 s4 => ?_
    · have hb2' : s.1 + goL rs s ≤ t.1 := by have := of_decide_eq_true hb2; omega
      rw [exch_2 hb' hb2'] at hQ
      have f4 := s3.ff.trans s4.ff
      refine k_fin (Q := Q) hQ s4.kn ((d_lst (da_cons (d_tup (da_cons (d_sub (d_st0 (d_var rfl (hu2.ex f4))) (d_var rfl (g1.ex f4))) (da_cons (d_st1 (d_var rfl (hu2.ex f4))) (da_cons (d_st2 (d_var rfl (hu2.ex f4))) da_nil)))) (da_cons (d_var rfl (hy2.ex f4)) da_nil))).is ?_)
      have e : ((t.1 : Nat) : Int) - (((goL rs s : Nat) : Int) - ((srL rs s : Nat) : Int)) = ((t.1 - goL rs s + srL rs s : Nat) : Int) := by omega
      rw [e]
      rfl
    · have hb2' : ¬ s.1 + goL rs s ≤ t.1 := by have := of_decide_eq_false hb2; omega
      rw [exch_3 hb' hb2'] at hQ
      exact k_fin (Q := Q) hQ s4.kn d_non
def c_boxes (ds : List PyData) (r : PyData) : Prop := ∃ (rs : List Rule) (z : Str) (ss : List WStep), ds = [rulesD rs, .str z, stepsD ss] ∧ BkOk rs ∧ (∀ s ∈ ss, ∃ q, rs[s.2.1]? = some q) ∧ z.length ≤ 1000 ∧ ss.length ≤ 60 ∧ r = .tuple [.list ((boxesN rs (row0 z) ss).map bxD), natsD (rowN rs (row0 z) ss).1]
theorem goL_le {rs : List Rule} (b : BkOk rs) (s : WStep) : goL rs s ≤ 1000 := by
  unfold goL
  cases q : rs[s.2.1]? with
  | none => exact Nat.zero_le _
  | some q' => exact (b.at_ q).gl _
theorem rowN_le {rs : List Rule} (b : BkOk rs) : ∀ (ss : List WStep) (r : RowN), (rowN rs r ss).1.length ≤ r.1.length + 1000 * ss.length ∧ (rowN rs r ss).2 ≤ r.2 + 1000 * ss.length
  | [], r => ⟨Nat.le_refl _, Nat.le_refl _⟩
  | s :: ss, r => by
    have g := goL_le b s
    obtain ⟨h1, h2⟩ := rowN_le b ss (stN rs r s)
    have e1 : (stN rs r s).1.length ≤ r.1.length + 1000 := by
      show (r.1.take s.1 ++ gvN rs r s ++ r.1.drop (s.1 + srL rs s)).length ≤ _
      rw [List.length_append, List.length_append, List.length_take, gv_len, List.length_drop]
      omega
    have e2 : (stN rs r s).2 = r.2 + goL rs s := rfl
    rw [List.length_cons]
    show (rowN rs (stN rs r s) ss).1.length ≤ _ ∧ (rowN rs (stN rs r s) ss).2 ≤ _
    omega
theorem cl__law_w_boxes (S : Env P w K mg base) : Cl P w K mg base 2 "_law_w_boxes" ["rules", "word", "steps"] (SpD c_boxes) := mk_cl S.fun__law_w_boxes S.glo__law_w_boxes sc__law_w_boxes (fun _ _ _ _ _ _ us hl => match us, hl with | [_, _, _], _ => rfl) (SpD.len fun _ _ ⟨_, _, _, e, _⟩ => e ▸ rfl) fun cdv A outer s H vs Q E hr h => by
  have nd := sc__law_w_boxes.nd
  refine ⟨_, (pss_cons (ps_asg (pe_tup (pa_cons (pe_listRg rfl rfl S.free_list (prg_1 rfl S.free_range (pe_callB (r := rLenSQ) (id := "len") call_len_str (by rfl) S.free_len (by decide +kernel) (pa_cons (pv 1) pa_nil)))) (pa_cons (pe_callB (r := rLenSQ) (id := "len") call_len_str (by rfl) S.free_len (by decide +kernel) (pa_cons (pv 1) pa_nil)) (pa_cons (pe_lst pa_nil) pa_nil)))) (pg_tupK (K := K) (n := 3) rfl rfl (pgs_cons (pg_name (i := 3) nd rfl (by first | exact Or.inl rfl | exact Or.inr rfl)) (pgs_cons (pg_name (i := 4) nd rfl (by first | exact Or.inl rfl | exact Or.inr rfl)) (pgs_cons (pg_name (i := 5) nd rfl (by first | exact Or.inl rfl | exact Or.inr rfl)) pgs_nil)))))
    (pss_cons (ps_for (passes_of rfl) rfl (pi_listK (K := K) rfl (pv 2)) (pg_tupK (K := K) (n := 3) rfl rfl (pgs_cons (pg_name (i := 6) nd rfl (by first | exact Or.inl rfl | exact Or.inr rfl)) (pgs_cons (pg_name (i := 7) nd rfl (by first | exact Or.inl rfl | exact Or.inr rfl)) (pgs_cons (pg_name (i := 8) nd rfl (by first | exact Or.inl rfl | exact Or.inr rfl)) pgs_nil))))
    (pss_cons (ps_set (i := 9) nd rfl (by first | exact Or.inl rfl | exact Or.inr rfl) (pe_op op_add (pv 6) (pe_callB (r := rLenSQ) (id := "len") call_len_str (by rfl) S.free_len (by decide +kernel) (pa_cons (pe_cl (cl__law_w_source S) hr (by decide) pass_none (by rfl) (pa_cons (pv 0) (pa_cons (pe_tup (pa_cons (pv 6) (pa_cons (pv 7) (pa_cons (pv 8) pa_nil)))) pa_nil))) pa_nil))))
    (pss_cons (ps_setLc (i := 11) (own := [("k", 10)]) rfl nd rfl rfl (sw_true rfl rfl rfl (by decide +kernel)) (pi_range1 rfl S.free_range (pa_cons (pe_callB (r := rLenSQ) (id := "len") call_len_str (by rfl) S.free_len (by decide +kernel) (pa_cons (pe_cl (cl__law_w_goal S) hr (by decide) pass_none (by rfl) (pa_cons (pv 0) (pa_cons (pe_tup (pa_cons (pv 6) (pa_cons (pv 7) (pa_cons (pv 8) pa_nil)))) pa_nil))) pa_nil)) pa_nil)) (blkOk_by (N := ["rules", "word", "steps", "row", "number", "found", "place", "rule", "turn", "behind", "k", "given"]) (sc := defScope s__law_w_boxes) (by decide +kernel)) (fun _ _ _ _ _ => (pg_name (i := 10) nd rfl (by first | exact Or.inl rfl | exact Or.inr rfl))) (fun _ _ _ _ _ => pts_nil) (fun _ _ _ _ _ => (pe_op op_add (pv 4) (pv 10))))
    (pss_cons (ps_set (i := 4) nd rfl (by first | exact Or.inl rfl | exact Or.inr rfl) (pe_op op_add (pv 4) (pe_callB (r := rLenQ K) (id := "len") call_len_seq (by rfl) S.free_len (by decide +kernel) (pa_cons (pv 11) pa_nil))))
    (pss_cons (ps_expr (pe_bmK (K := K) (r := rAppend) rfl PySem.F.plainAttrs_list PySem.F.slot_list_append PySem.F.type_list_append mt_append (pv 5) (pa_cons (pe_tup (pa_cons (pv 7) (pa_cons (pv 8) (pa_cons (pe_slice (r := rSlL K) sl_list (pv 3) (po_some (pv 6)) (po_some (pv 9))) (pa_cons (pv 11) pa_nil))))) pa_nil)))
    (pss_one (ps_set (i := 3) nd rfl (by first | exact Or.inl rfl | exact Or.inr rfl) (pe_op op_cat (pe_op op_cat (pe_slice (r := rSlL K) sl_list (pv 3) po_none (po_some (pv 6))) (pv 11)) (pe_slice (r := rSlL K) sl_list (pv 3) (po_some (pv 9)) po_none)))))))))
    (pss_one (ps_ret (pe_tup (pa_cons (pv 5) (pa_cons (pv 3) pa_nil))))))), ?_⟩
  obtain ⟨F0, ds, r, e0, hd, hc, hQ⟩ := h
  have kn := Kn.start e0
  obtain ⟨rs, z, ss, rfl, ok, hss, zl, sl, rfl⟩ := hc
  obtain ⟨x, y, u, rfl, hx, hy, hu⟩ := da3_ hd
  refine q_three (d1 := natsD (List.range z.length)) (d2 := .int (z.length : Nat)) kn (d_lrg1 (d_lenS (d_var rfl hy) (szS (by omega))) ?_) (d_lenS (d_var rfl hy) (szS (by omega))) fun v1 v2 p F1 H1 s1 g1 g2 hp0 hp1 hp _ => ?_
  · exact ⟨by decide, by decide, by omega, by omega, by omega⟩
  have hx1 := hx.ex s1.ff
  have hu1 := hu.ex s1.ff
  cases g2.int_
  refine q_for s1.kn (wk_list (d_var rfl hu1)) (fun i σ' F' H' => (∃ vr y6 y7 y8 y9 y11, σ' = [some x, some y, some u, some vr, some (.int ((rowN rs (row0 z) (ss.take i)).2 : Nat)), some (.ref p), y6, y7, y8, y9, none, y11] ∧ Dt F' vr (natsD (rowN rs (row0 z) (ss.take i)).1)) ∧ Dt F' x (rulesD rs) ∧ F' p = none ∧ ∃ vs, H' p = some (.lst vs) ∧ DtAll F' vs ((boxesN rs (row0 z) (ss.take i)).map bxD)) ?_ ?_ ?_ ?_
  · intro F2 H2 s2
    exact ⟨⟨v1, none, none, none, none, none, rfl, g1.ex s2.ff⟩, hx1.ex s2.ff, s2.fr _ _ hp hp0, [], s2.ex _ _ hp, .nil⟩
  · rintro i σ' F' H' H2 ⟨⟨vr, y6, y7, y8, y9, y11, h1, h2⟩, h3, h4, vs, h5, h6⟩ kn' e
    have s := kn'.step (H1 := H2) e
    exact ⟨⟨vr, y6, y7, y8, y9, y11, h1, h2.ex s.ff⟩, h3.ex s.ff, s.fr _ _ h5 h4, vs, e _ _ h5, h6.ex s.ff⟩
  · rintro i d yy σ' F' H' hi kn' eF hd ⟨⟨vr, y6, y7, y8, y9, y11, rfl, h2⟩, h3, h4, vs, h5, h6⟩ N hN
    obtain ⟨st, hst, rfl⟩ := map_at hi
    have il : i < ss.length := (List.getElem?_eq_some_iff.mp hst).1
    obtain ⟨q, hq⟩ := hss st (List.mem_of_getElem? hst)
    have rq := ok.at_ hq
    have gl := goL_le ok st
    have bnd := rowN_le ok (ss.take i) (row0 z)
    have tl : (ss.take i).length = i := by rw [List.length_take]; omega
    rw [tl, show (row0 z).1.length = z.length from List.length_range] at bnd
    have b2 : (rowN rs (row0 z) (ss.take i)).2 ≤ 1000 + 1000 * 1000 := by have := bnd.2; have e : (row0 z).2 = z.length := rfl; omega
    have tk : ss.take (i + 1) = ss.take i ++ [st] := take_snoc hst
    generalize hr : rowN rs (row0 z) (ss.take i) = r at h2 bnd b2
    have hr1 : rowN rs (row0 z) (ss.take (i + 1)) = stN rs r st := by rw [tk, rowN_snoc, hr]
    have hb1 : boxesN rs (row0 z) (ss.take (i + 1)) = boxesN rs (row0 z) (ss.take i) ++ [bxN rs r st] := by rw [tk, boxesN_snoc, hr]
    obtain ⟨pl, n, b⟩ := st
    refine gt3 hd kn'.fh fun u6 u7 u8 k6 k7 k8 => ?_
    cases k6.int_
    refine q_asg (d := .int ((pl + srL rs (pl, n, b) : Nat) : Int)) kn' ((d_add (d_var rfl (.int _)) (d_lenSr (s := (pl, n, b)) (d_var rfl h3) (d_tup (da_cons (d_var rfl (.int _)) (da_cons (d_var rfl k7) (da_cons (d_var rfl k8) da_nil)))) hq rq)).is (by congr 1)) fun v9 F2 H2 s2 k9 => ?_
    cases k9.int_
    have h3' := h3.ex s2.ff
    have k7' := k7.ex s2.ff
    have k8' := k8.ex s2.ff
    refine q_asg (d := natsD (gvN rs r (pl, n, b))) s2.kn (d_lcn (wk_rng1 (n := ((goL rs (pl, n, b) : Nat) : Int)) (da_cons (d_lenGo (s := (pl, n, b)) (d_var rfl h3') (d_tup (da_cons (d_var rfl (.int _)) (da_cons (d_var rfl k7') (da_cons (d_var rfl k8') da_nil)))) hq rq) da_nil) ⟨by omega, by omega⟩) (by rw [rngD_len]; omega) (by rw [rngD_len, List.length_map, gv_len]; omega) fun j d r' v F3 hj hr' e3 hd' => ?_) fun v11 F3 H3 s3 k11 => ?_
    · have jl := (List.getElem?_eq_some_iff.mp hj).1
      rw [rngD_len] at jl
      rw [rngD_get jl] at hj
      cases hj
      obtain ⟨x', hx', rfl⟩ := map_at hr'
      unfold gvN at hx'
      rw [List.getElem?_map, List.getElem?_range (by omega)] at hx'
      cases hx'
      refine (d_add (d_var rfl (.int _)) (d_var rfl hd')).is ?_
      show PyData.int (((r.2 : Nat) : Int) + ((0 : Int) + ((j : Nat) : Int))) = PyData.int ((r.2 + j : Nat) : Int)
      congr 1
      omega
    have t3 := s2.trans s3
    refine q_asg (d := .int ((r.2 + goL rs (pl, n, b) : Nat) : Int)) s3.kn ((d_add (d_var rfl (.int _)) (d_lenL (d_var rfl k11))).is (by rw [List.length_map, gv_len]; congr 1)) fun v4 F4 H4 s4 k4 => ?_
    cases k4.int_
    have t4 := t3.trans s4
    have h2' := h2.ex t4.ff
    have k11' := k11.ex s4.ff
    have vl : vs.length = i := by rw [h6.len, List.length_map, boxesN_len, tl]
    refine q_app s4.kn (t4.ex _ _ h5) (t4.fr _ _ h5 h4) hp1 (ev_var rfl) (d := bxD (bxN rs r (pl, n, b))) ((d_tup (da_cons (d_var rfl (k7'.ex (s3.ff.trans s4.ff))) (da_cons (d_var rfl (k8'.ex (s3.ff.trans s4.ff))) (da_cons (d_slL (d_var rfl h2') (do_some (d_var rfl (.int _))) (do_some (d_var rfl (.int _)))) (da_cons (d_var rfl k11') da_nil))))).is ?_) (by omega) fun v5 F5 H5 k5 e5 n5 hv5 l5 o5 fr5 => ?_
    · rw [cutD_nats_nn, show pl + srL rs (pl, n, b) - pl = srL rs (pl, n, b) by omega]
      rfl
    · have ff := t4.ff.trans e5
      refine k_asg (d := natsD (stN rs r (pl, n, b)).1) k5 ((d_catL (d_catL (d_slL (d_var rfl (h2'.ex e5)) do_none (do_some (d_var rfl (.int _)))) (d_var rfl (k11'.ex e5)) ?_) (d_slL (d_var rfl (h2'.ex e5)) (do_some (d_var rfl (.int _))) do_none) ?_).is ?_) fun v6 F6 H6 s6 k6 => ?_
      · rw [cutD_lo, List.length_take, List.length_map, List.length_map, gv_len]
        exact szS (by omega)
      · rw [cutD_lo, cutD_hi, List.length_append, List.length_take, List.length_map, List.length_map, gv_len, List.length_drop, List.length_map]
        exact szS (by omega)
      · have e1 := cutD_nats_lo r.1 pl
        have e2 := cutD_nats_hi r.1 (pl + srL rs (pl, n, b))
        injection e1 with e1
        injection e2 with e2
        rw [e1, e2, ← List.map_append, ← List.map_append]
        rfl
      · have f6 := ff.trans s6.ff
        refine hN _ F6 H6 s6.kn f6 ⟨⟨v6, some (.int (pl : Nat)), some u7, some u8, some (.int ((pl + srL rs (pl, n, b) : Nat) : Int)), some v11, ?_, ?_⟩, h3.ex f6, s6.fr _ _ l5 n5, vs ++ [v5], s6.ex _ _ l5, ?_⟩
        · rw [hr1]
          rfl
        · rw [hr1]
          exact k6
        · rw [hb1, List.map_append]
          exact (h6.ex f6).snoc (hv5.ex s6.ff)
  · rintro σ' F' H' kn' eF ⟨⟨vr, y6, y7, y8, y9, y11, rfl, h2⟩, h3, h4, vs, h5, h6⟩
    rw [List.length_map, List.take_length] at h2 h6
    have kn2 := kn'.know h4 hp1 h5
    have f2 := ex_know (F := F') (o := .lst vs) h4
    exact k_fin (Q := Q) hQ kn2 (d_tup (da_cons (d_var (d := .list ((boxesN rs (row0 z) ss).map bxD)) rfl (.lst upd_same (h6.ex f2))) (da_cons (d_var rfl (h2.ex f2)) da_nil)))
end
end K10
namespace K10
open PySem PySem.Spec PyProof.Rows L2 Evl WB
section
variable {P : Program} {w : World} {K : PySem.W.Frag} {mg : Str → Option Value} {base : Heap}
theorem pa_pk {σ : L2.St} {F : Hp} {te : TE} {x : PyData} (h : EvD te σ F x) (h1 : itemsOf x ≠ []) (h2 : (itemsOf x).length ≤ 100000) : EvPA (tCons te tNil) σ F (APk x) := fun H1 e _ q =>
  h H1 e _ fun v H2 e2 hv => q [v] H2 e2 ⟨h1, h2, v, rfl, hv⟩
theorem pa_mx {σ : L2.St} {F : Hp} {te : TE} {z : Str} (h : EvD te σ F (.str z)) (hz : z.length ≤ 1000) : EvPA (tCons te tNil) σ F (AMx z) := fun H1 e _ q =>
  h H1 e _ fun v H2 e2 hv => by
    cases hv.str_
    exact q [.str z] H2 e2 ⟨hz, rfl⟩
theorem em_at {l s a : Addr} {H H1 : Hp} {o : HO} (e : ExM (Ms l s) H H1) (h : H a = some o) (h1 : a ≠ l) (h2 : a ≠ s) : H1 a = some o := e.k a o (fun m => by
  rcases m with q | q
  · exact h1 q
  · exact h2 q) h
/-- sides over a, b, c, x -/
def sdB (z : Str) : Bool := decide (z.length ≠ 0) && (decide (z.length ≤ 8) && z.cps.toList.all fun c => decide (c = 97) || (decide (c = 98) || (decide (c = 99) || decide (c = 120))))
def bkB (rs : List Rule) : Bool := decide (rs ≠ []) && (decide (rs.length ≤ 14) && rs.all fun r => sdB r.1 && sdB r.2)
def menuW : List (List Rule) := [[("x", "xx")], [("xx", "x")], [("a", "b"), ("b", "c"), ("c", "a")], [("a", "b"), ("a", "b")], [("a", "a")], [("ab", "ba"), ("ab", "ba")], [("aa", "a"), ("a", "b")], [("a", "a"), ("ab", "ba")], [("a", "b"), ("bb", "a")], [("ab", "ba"), ("bc", "cb"), ("ac", "ca")], [("x", "xa"), ("x", "ax")], [("ab", "a"), ("a", "ca")]]
theorem menu_ok : ∀ rs ∈ menuW, bkB rs = true := by
  have h : menuW.all bkB = true := by decide +kernel
  exact fun rs m => List.all_eq_true.mp h rs m
/-- the letter that stands for this one -/
def renC (a b c d : Str) (x : Nat) : Str := if x = 97 then a else if x = 98 then b else if x = 99 then c else d
def renS (a b c d : Str) (z : Str) : Str := Txt.join "" (z.cps.toList.map (renC a b c d))
def renR (a b c d : Str) (r : Rule) : Rule := (renS a b c d r.1, renS a b c d r.2)
theorem renC_l {a b c d : Str} (ha : IsL a) (hb : IsL b) (hc : IsL c) (hd : IsL d) (x : Nat) : IsL (renC a b c d x) := by
  unfold renC
  split
  · exact ha
  · split
    · exact hb
    · split
      · exact hc
      · exact hd
theorem renS_ok {a b c d : Str} (ha : IsL a) (hb : IsL b) (hc : IsL c) (hd : IsL d) (z : Str) : isW (renS a b c d z) = true ∧ (renS a b c d z).length = z.length := by
  have m : ∀ y ∈ z.cps.toList.map (renC a b c d), IsL y := fun y hy => by
    obtain ⟨x, _, rfl⟩ := List.mem_map.mp hy
    exact renC_l ha hb hc hd x
  refine ⟨join_w fun y hy => (m y hy).1, ?_⟩
  show (Txt.join "" _).length = _
  rw [join_len, sum_ones fun y hy => (m y hy).2, List.length_map]
  rfl
theorem sd_len {z : Str} (h : sdB z = true) : z.length ≠ 0 ∧ z.length ≤ 8 ∧ ∀ c ∈ z.cps.toList, c = 97 ∨ c = 98 ∨ c = 99 ∨ c = 120 := by
  unfold sdB at h
  obtain ⟨h1, h2⟩ := Bool.and_eq_true_iff.mp h
  obtain ⟨h2, h3⟩ := Bool.and_eq_true_iff.mp h2
  refine ⟨of_decide_eq_true h1, of_decide_eq_true h2, fun c hc => ?_⟩
  have := List.all_eq_true.mp h3 c hc
  simpa using this
theorem ren_bk {a b c d : Str} (ha : IsL a) (hb : IsL b) (hc : IsL c) (hd : IsL d) {rs : List Rule} (h : bkB rs = true) : BkSm (rs.map (renR a b c d)) ∧ rs.map (renR a b c d) ≠ [] := by
  unfold bkB at h
  obtain ⟨h1, h2⟩ := Bool.and_eq_true_iff.mp h
  obtain ⟨h2, h3⟩ := Bool.and_eq_true_iff.mp h2
  have h1 := of_decide_eq_true h1
  have h2 := of_decide_eq_true h2
  refine ⟨⟨fun q hq => ?_, by rw [List.length_map]; exact h2⟩, fun z => h1 (List.map_eq_nil_iff.mp z)⟩
  obtain ⟨r, hr, rfl⟩ := List.mem_map.mp hq
  obtain ⟨a1, a2⟩ := Bool.and_eq_true_iff.mp (List.all_eq_true.mp h3 r hr)
  obtain ⟨b1, b2, _⟩ := sd_len a1
  obtain ⟨c1, c2, _⟩ := sd_len a2
  obtain ⟨w1, l1⟩ := renS_ok ha hb hc hd r.1
  obtain ⟨w2, l2⟩ := renS_ok ha hb hc hd r.2
  have l1 : (renR a b c d r).1.length = r.1.length := l1
  have l2 : (renR a b c d r).2.length = r.2.length := l2
  exact ⟨⟨w1, w2, by omega, by omega, by omega, by omega⟩, by omega, by omega⟩
abbrev RBn : Unit → Hp → V → Prop := fun _ H v => ∃ rs : List Rule, Dt H v (rulesD rs) ∧ BkSm rs ∧ rs ≠ []
theorem mo_bn : Mo (RBn ()) := fun _ _ _ e ⟨d, h1, h2⟩ => ⟨d, h1.ex e, h2⟩
/-- the names, and the rules by them -/
theorem w_names {l s : Addr} {n : Nat} {F0 H0 F H : Hp} {σ : L2.St} {E : XK} {D : Ends} {y1 y3 y5 y6 : Option V} {rw_ : V} {rs : List Rule} (hQ : ∀ v H', ExM (Ms l s) H0 H' → StA l s (n + 8) H' → RBn () (nw F0 H0 H') v → D.rt v H')
    (kn : Kn (Ms l s) F0 H0 F H) (st : StA l s n H) (hn : n + 8 ≤ 1000000) (hσ : σ = [some (.ref l), y1, some rw_, y3, none, y5, y6, none, none, none, none]) (hr : Dt F rw_ (rulesD rs)) (ok : bkB rs = true) :
    tSeq (tAsg (tDictZip K (tCons (tC (.str "abcx")) (tCons (tCall (SpM (fun z : Str => z.length) AMx RMx) [] E (tCons (tVar 0) (tCons (tC (.str "abcdwxyz")) tNil))) tNil))) (gName 7))
      (tRet (tLc (iList K (tVar 2)) (gName 8) tYes (tCB (rTupQ K) (tCons (tLc (iTup K (tVar 8)) (gName 9) tYes (tBM K "str" (rJoinQ K) (tC (.str "")) (tCons (tLc (iStr (tVar 9)) (gName 10) tYes (tDGet (tVar 7) (tVar 10)) [10]) tNil)) [9]) tNil)) [8])) D σ H := by
  subst hσ
  have zl8 : ("abcdwxyz" : Str).length = 8 := by decide +kernel
  have zw8 : isW "abcdwxyz" = true := by decide +kernel
  refine wp_asg (wp_cons (wp_c (wp_cons (wm_call ("abcdwxyz" : Str) kn st (by rw [zl8]; exact hn) rfl (pa_mx (z := "abcdwxyz") d_str (by rw [zl8]; decide)) (mo_mx _) fun v1 F1 H1 s1 st1 ⟨zs, hzs, zl, zL⟩ => ?_))))
  rw [zl8] at zl st1
  have zi : ∀ y ∈ zs, IsL y := fun y hy => lets_l zw8 (zL y hy)
  obtain ⟨a1, xs1, rfl, ha1, hxs1⟩ := hzs.list_
  have ex1 := hxs1.strs_
  subst ex1
  match zs, zl, zi, hzs, ha1, hxs1 with
  | za :: zb :: zc :: zd :: zr, zl, zi, hzs, ha1, hxs1 =>
  have la : IsL za := zi za (by simp)
  have lb : IsL zb := zi zb (by simp)
  have lc : IsL zc := zi zc (by simp)
  have ld : IsL zd := zi zd (by simp)
  refine wp_nil ⟨"abcx", a1, _, rfl, SqL.of (s1.kn.fh _ _ ha1), by decide +kernel, fun p hp => ?_⟩
  have ez : zipK "abcx" ((za :: zb :: zc :: zd :: zr).map V.str) = zipK "abcx" [.str za, .str zb, .str zc, .str zd] := rfl
  rw [ez]
  obtain ⟨d1, d2, d3, d4⟩ := four_vals (.str za) (.str zb) (.str zc) (.str zd)
  generalize mergeK [] (zipK "abcx" [.str za, .str zb, .str zc, .str zd]) = kvs at d1 d2 d3 d4 ⊢
  have k2 := kn_new (o := .dK kvs) s1.kn hp
  have e2 := know_ex (o := .dK kvs) s1.kn hp
  have hp2 : upd F1 p (.dK kvs) p = some (.dK kvs) := upd_same
  have st2 : StA l s (n + 8) (upd H1 p (.dK kvs)) := st1.ex (Ex.new hp)
  have hr2 := (hr.ex s1.ff).ex e2
  generalize upd F1 p (.dK kvs) = F2 at k2 e2 hp2 hr2
  generalize upd H1 p (.dK kvs) = H2 at k2 st2 ⊢
  have okr := ren_bk la lb lc ld ok
  unfold bkB at ok
  obtain ⟨_, ok2⟩ := Bool.and_eq_true_iff.mp ok
  obtain ⟨ok2, ok3⟩ := Bool.and_eq_true_iff.mp ok2
  have ok2 := of_decide_eq_true ok2
  refine kM_fin (T := RBn ()) hQ mo_bn k2 st2 (EvP.imp (EvD.toP (d_lcn (rs := (rs.map (renR za zb zc zd)).map ruleD) (wk_list (d_var rfl hr2)) (by rw [List.length_map]; omega) (by simp) fun i d r v F' hi hr' ef hd => ?_)) fun H v hv => ⟨_, hv, okr⟩)
  obtain ⟨q, hq, rfl⟩ := map_at hi
  rw [List.map_map] at hr'
  obtain ⟨q', hq', rfl⟩ := map_at hr'
  rw [hq] at hq'
  cases hq'
  obtain ⟨o1, o2⟩ := Bool.and_eq_true_iff.mp (List.all_eq_true.mp ok3 q (List.mem_of_getElem? hq))
  have side : ∀ (z : Str) (u : V) (F3 : Hp), sdB z = true → Ex F' F3 → Dt F3 u (.str z) → EvD (tBM K "str" (rJoinQ K) (tC (.str "")) (tCons (tLc (iStr (tVar 9)) (gName 10) tYes (tDGet (tVar 7) (tVar 10)) [10]) tNil)) [some (.ref l), y1, some rw_, y3, none, y5, y6, some (.ref p), some v, some u, none] F3 (.str (renS za zb zc zd z)) := fun z u F3 sd e3 hu => by
    obtain ⟨n1, n2, n3⟩ := sd_len sd
    have nl : z.cps.toList.length = z.length := rfl
    refine d_joinL (ys := z.cps.toList.map (renC za zb zc zd)) d_str (d_lcn (wk_str (d_var rfl hu)) (by unfold letsD; rw [List.length_map]; omega) (by unfold letsD; simp) fun j d r x F4 hj hrj e4 hx => ?_) ?_
    · unfold letsD at hj
      obtain ⟨c, hc, rfl⟩ := map_at hj
      rw [List.map_map] at hrj
      obtain ⟨c', hc', rfl⟩ := map_at hrj
      rw [hc] at hc'
      cases hc'
      have hF4 : F4 p = some (.dK kvs) := e4 _ _ (e3 _ _ (ef _ _ hp2))
      refine d_dget (kvs := kvs) (k := ⟨#[c]⟩) (ev_var rfl) (d_var rfl hx) hF4 ?_
      show valV kvs (.inr ⟨#[c]⟩) = some (.str (renC za zb zc zd c))
      rcases n3 c (List.mem_of_getElem? hc) with rfl | rfl | rfl | rfl
      · exact d1
      · exact d2
      · exact d3
      · exact d4
    · rw [sum_ones fun y hy => by
        obtain ⟨c, _, rfl⟩ := List.mem_map.mp hy
        exact (renC_l la lb lc ld c).2, List.length_map]
      show z.cps.toList.length + z.cps.toList.length * 0 ≤ _
      omega
  refine d_tupL (d_lcn (rs := [.str (renS za zb zc zd q.1), .str (renS za zb zc zd q.2)]) (wk_tup (d_var rfl hd)) (by show 2 ≤ _; decide) rfl fun j d r x F3 hj hrj e3 hx => ?_)
  match j with
  | 0 =>
    cases hj
    cases hrj
    exact side q.1 x F3 o1 e3 hx
  | 1 =>
    cases hj
    cases hrj
    exact side q.2 x F3 o2 e3 hx
  | j + 2 => simp at hj
/-- one of a, b, c -/
def IsA (y : Str) : Prop := y = "a" ∨ y = "b" ∨ y = "c"
theorem sd_join {zs : List Str} (h : ∀ y ∈ zs, IsA y) (h1 : 1 ≤ zs.length) (h8 : zs.length ≤ 8) : sdB (Txt.join "" zs) = true := by
  have e : (Txt.join "" zs).length = zs.length := by
    rw [join_len, sum_ones fun y hy => ?_]
    rcases h y hy with rfl | rfl | rfl <;> decide +kernel
  have a : ∀ ys : List Str, (∀ y ∈ ys, IsA y) → ∀ c ∈ (Str.join "" ys).cps.toList, c = 97 ∨ c = 98 ∨ c = 99 := fun ys => by
    induction ys with
    | nil => exact fun _ c hc => absurd (show c ∈ ([] : List Nat) from hc) (by simp)
    | cons y r ih =>
      intro hy c hc
      cases r with
      | nil =>
        have hc : c ∈ y.cps.toList := hc
        rcases hy y (by simp) with rfl | rfl | rfl
        · exact .inl (by have : c ∈ [97] := hc; simpa using this)
        · exact .inr (.inl (by have : c ∈ [98] := hc; simpa using this))
        · exact .inr (.inr (by have : c ∈ [99] := hc; simpa using this))
      | cons y2 r2 =>
        have hc2 : c ∈ (y ++ "" ++ Str.join "" (y2 :: r2)).cps.toList := hc
        have e2 : (y ++ "" ++ Str.join "" (y2 :: r2)).cps.toList = y.cps.toList ++ (Str.join "" (y2 :: r2)).cps.toList := by
          show ltr (y ++ "" ++ Str.join "" (y2 :: r2)) = ltr y ++ ltr (Str.join "" (y2 :: r2))
          rw [ltr_app, ltr_app, show ltr ("" : Str) = [] from rfl, List.append_nil]
        rw [e2] at hc2
        rcases List.mem_append.mp hc2 with q | q
        · rcases hy y (by simp) with rfl | rfl | rfl
          · exact .inl (by have : c ∈ [97] := q; simpa using this)
          · exact .inr (.inl (by have : c ∈ [98] := q; simpa using this))
          · exact .inr (.inr (by have : c ∈ [99] := q; simpa using this))
        · exact ih (fun y' hy' => hy y' (List.mem_cons_of_mem _ hy')) c q
  unfold sdB
  rw [e, Bool.and_eq_true, Bool.and_eq_true]
  refine ⟨decide_eq_true (by omega), decide_eq_true h8, List.all_eq_true.mpr fun c hc => ?_⟩
  have e3 : Txt.join "" zs = Str.join "" zs := StrLaws.glued_eq_join _ _
  rw [e3] at hc
  rcases a zs h c hc with rfl | rfl | rfl <;> decide
/-- [['a', 'b', 'c'][draw(stream, 3)] for n in range(2 + draw(stream, 3))] -/
theorem w_abc {l s : Addr} {n : Nat} {F0 H0 F H : Hp} {σ : L2.St} {Q : VK} {E1 E2 : XK} (kn : Kn (Ms l s) F0 H0 F H) (st : StA l s n H) (hn : n + 5 ≤ 1000000) (h0 : σ[0]? = some (some (.ref l)))
    (w0 : ∀ x, (((wipe σ [4]).set 4 (some x)) : L2.St)[0]? = some (some (.ref l))) (hw : ∀ x, wipe ((wipe σ [4]).set 4 (some x)) [4] = wipe σ [4])
    (k : ∀ D zs F1 H1, Kn (Ms l s) F0 H0 F1 H1 → Ex F F1 → ExM (Ms l s) H H1 → (∀ a o, H a = some o → F a = none → F1 a = none) → StA l s (n + 5) H1 → Dt F1 (.ref D) (strsD zs) → (∀ y ∈ zs, IsA y) → 2 ≤ zs.length → zs.length ≤ 4 → Q (.ref D) H1) :
    tLc (iRng1 (tCons (tOp (rI0 fun i j => .int (i + j)) (tC (.int 2)) (tCall (SpM (fun _ => 1) ADr RDr) [] E1 (tCons (tVar 0) (tCons (tC (.int 3)) tNil)))) tNil)) (gName 4) tYes (tOp (rIxL K) (tLst (tCons (tC (.str "a")) (tCons (tC (.str "b")) (tCons (tC (.str "c")) tNil)))) (tCall (SpM (fun _ => 1) ADr RDr) [] E2 (tCons (tVar 0) (tCons (tC (.int 3)) tNil)))) [4] σ H Q := by
  refine wp_lc (wp_rng1 (wp_cons (wp_op (wp_c (wm_call 3 kn st (by show n + 1 ≤ _; omega) h0 (pa_dr d_int (by omega) (by omega)) (mo_dr _) fun u F1 H1 s1 st1 ⟨d, hd, dl⟩ => ?_)))))
  subst hd
  refine ⟨2, d, rfl, rfl, ?_⟩
  show ∃ j : Int, _
  refine ⟨2 + (d : Int), rfl, by omega, by omega, ?_⟩
  have en : (2 + (d : Int)).toNat = d + 2 := by omega
  rw [en]
  refine lc_turns (M2 := Ms l s) (m := d + 2) s1.kn (by omega) (fun i acc F' H' => StA l s (n + 1 + i) H' ∧ ∃ zs : List Str, acc = zs.map V.str ∧ zs.length = i ∧ ∀ y ∈ zs, IsA y) st1.has ⟨st1, [], rfl, rfl, fun y h => by cases h⟩ ?_ ?_ ?_ hw
  · rintro i acc F' H' H'' ⟨g1, g2⟩ hh
    exact ⟨g1.at_ (hh l (st1.has l (.inl rfl))) (hh s (st1.has s (.inr rfl))), g2⟩
  · rintro i acc F' H' il al kn' eF em ⟨g1, zs, rfl, g3, g4⟩ Q' hQ'
    refine wp_op (w_d (d := .list [.str "a", .str "b", .str "c"]) (d_lst (da_cons d_str (da_cons d_str (da_cons d_str da_nil)))) kn'.fh fun v5 H5 e5 hv5 => ?_)
    have s5 := kn'.step e5
    refine wm_call 3 s5.kn (g1.ex e5) (by show n + 1 + i + 1 ≤ _; omega) (w0 _) (pa_dr d_int (by omega) (by omega)) (mo_dr _) fun v F2 H2 s2 st2 ⟨d', hd', dl'⟩ => ?_
    subst hd'
    obtain ⟨a5, xs5, rfl, ha5, hxs5⟩ := (hv5.ex s2.ff).list_
    have fin : ∀ y : Str, IsA y → ([.str "a", .str "b", .str "c"] : List PyData)[d']? = some (.str y) → rIxL K (.ref a5) (.int (d' : Nat)) H2 Q' := fun y hy hd => by
      obtain ⟨u5, hu5, hyd⟩ := hxs5.get hd
      cases hyd.str_
      have t2 := s5.toStp.trans s2
      exact ⟨a5, xs5, _, _, rfl, rfl, SqL.of (s2.kn.fh _ _ ha5), atI_nat hu5, hQ' _ F2 H2 t2.kn t2.ff t2.hm t2.fr ⟨st2, zs ++ [y], by rw [List.map_append]; rfl, by rw [List.length_append, g3]; rfl, fun y' h => by
        rcases List.mem_append.mp h with q | q
        · exact g4 y' q
        · rw [List.mem_singleton.mp q]; exact hy⟩⟩
    have z : d' = 0 ∨ d' = 1 ∨ d' = 2 := by omega
    rcases z with rfl | rfl | rfl
    · exact fin "a" (.inl rfl) rfl
    · exact fin "b" (.inr (.inl rfl)) rfl
    · exact fin "c" (.inr (.inr rfl)) rfl
  · rintro D acc F' H' kn' eF em frr al ⟨g1, zs, rfl, g3, g4⟩ hD hF hH
    have h0D : H0 D = none := s1.kn.dm D hH
    refine k D zs _ H' (kn'.know hF h0D hD) ((s1.ff.trans eF).trans (ex_know hF)) (s1.hm.trans em) (fun a o ha hf => ?_) (g1.mono (by omega)) (.lst upd_same (strs_dt zs)) g4 (by omega) (by omega)
    have ne : a ≠ D := fun q => by
      have := s1.hm.d D hH
      rw [q, this] at ha
      cases ha
    rw [upd_ne ne]
    cases q : H1 a with
    | none => rw [s1.hm.d a q] at ha; cases ha
    | some o' => exact frr a o' q (s1.fr a o ha hf)
theorem menu_len : menuW.length = 12 := rfl
theorem cl__law_w_book (S : Env P w K mg base) : Cl P w K mg base 3 "_law_w_book" ["stream"] (SpM (fun _ => 60) (fun (_ : Unit) _ vs => vs = []) RBn) := mk_cl S.fun__law_w_book S.glo__law_w_book sc__law_w_book (fun _ _ _ _ _ _ us hl => match us, hl with | [_], _ => rfl) (m_len fun _ _ _ e => by rw [e]; rfl) fun cdv A outer s H vs Q E hr h => by
  have nd := sc__law_w_book.nd
  refine ⟨_, (pss_cons (ps_set (i := 1) nd rfl (by first | exact Or.inl rfl | exact Or.inr rfl) (pe_lst (pa_cons (pe_lst (pa_cons (pe_tup (pa_cons pe_str (pa_cons pe_str pa_nil))) pa_nil)) (pa_cons (pe_lst (pa_cons (pe_tup (pa_cons pe_str (pa_cons pe_str pa_nil))) pa_nil)) (pa_cons (pe_lst (pa_cons (pe_tup (pa_cons pe_str (pa_cons pe_str pa_nil))) (pa_cons (pe_tup (pa_cons pe_str (pa_cons pe_str pa_nil))) (pa_cons (pe_tup (pa_cons pe_str (pa_cons pe_str pa_nil))) pa_nil)))) (pa_cons (pe_lst (pa_cons (pe_tup (pa_cons pe_str (pa_cons pe_str pa_nil))) (pa_cons (pe_tup (pa_cons pe_str (pa_cons pe_str pa_nil))) pa_nil))) (pa_cons (pe_lst (pa_cons (pe_tup (pa_cons pe_str (pa_cons pe_str pa_nil))) pa_nil)) (pa_cons (pe_lst (pa_cons (pe_tup (pa_cons pe_str (pa_cons pe_str pa_nil))) (pa_cons (pe_tup (pa_cons pe_str (pa_cons pe_str pa_nil))) pa_nil))) (pa_cons (pe_lst (pa_cons (pe_tup (pa_cons pe_str (pa_cons pe_str pa_nil))) (pa_cons (pe_tup (pa_cons pe_str (pa_cons pe_str pa_nil))) pa_nil))) (pa_cons (pe_lst (pa_cons (pe_tup (pa_cons pe_str (pa_cons pe_str pa_nil))) (pa_cons (pe_tup (pa_cons pe_str (pa_cons pe_str pa_nil))) pa_nil))) (pa_cons (pe_lst (pa_cons (pe_tup (pa_cons pe_str (pa_cons pe_str pa_nil))) (pa_cons (pe_tup (pa_cons pe_str (pa_cons pe_str pa_nil))) pa_nil))) (pa_cons (pe_lst (pa_cons (pe_tup (pa_cons pe_str (pa_cons pe_str pa_nil))) (pa_cons (pe_tup (pa_cons pe_str (pa_cons pe_str pa_nil))) (pa_cons (pe_tup (pa_cons pe_str (pa_cons pe_str pa_nil))) pa_nil)))) (pa_cons (pe_lst (pa_cons (pe_tup (pa_cons pe_str (pa_cons pe_str pa_nil))) (pa_cons (pe_tup (pa_cons pe_str (pa_cons pe_str pa_nil))) pa_nil))) (pa_cons (pe_lst (pa_cons (pe_tup (pa_cons pe_str (pa_cons pe_str pa_nil))) (pa_cons (pe_tup (pa_cons pe_str (pa_cons pe_str pa_nil))) pa_nil))) pa_nil))))))))))))))
    (pss_cons (ps_set (i := 2) nd rfl (by first | exact Or.inl rfl | exact Or.inr rfl) (pe_ix (r := rIxL K) ix_list (pv 1) (pe_cl (cl__law_draw S) hr (by decide) pass_none (by rfl) (pa_cons (pv 0) (pa_cons (pe_callB (r := rLenQ K) (id := "len") call_len_seq (by rfl) S.free_len (by decide +kernel) (pa_cons (pv 1) pa_nil)) pa_nil))) (fun _ _ => rfl)))
    (pss_cons (ps_if (pt_cmpR op_eq (pe_cl (cl__law_draw S) hr (by decide) pass_none (by rfl) (pa_cons (pv 0) (pa_cons pe_int pa_nil))) pe_int (nomark _)) (pss_cons (ps_set (i := 2) nd rfl (by first | exact Or.inl rfl | exact Or.inr rfl) (pe_lst pa_nil))
    (pss_one (ps_for (passes_of rfl) rfl (pi_range1 rfl S.free_range (pa_cons (pe_op op_add pe_int (pe_cl (cl__law_draw S) hr (by decide) pass_none (by rfl) (pa_cons (pv 0) (pa_cons pe_int pa_nil)))) pa_nil)) (pg_name (i := 3) nd rfl (by first | exact Or.inl rfl | exact Or.inr rfl))
    (pss_cons (ps_setLc (i := 5) (own := [("n", 4)]) rfl nd rfl rfl (sw_true rfl rfl rfl (by decide +kernel)) (pi_range1 rfl S.free_range (pa_cons (pe_op op_add pe_int (pe_cl (cl__law_draw S) hr (by decide) pass_none (by rfl) (pa_cons (pv 0) (pa_cons pe_int pa_nil)))) pa_nil)) (blkOk_by (N := ["stream", "some", "rules", "k", "n", "sides_v", "at", "names", "rule", "side", "sign"]) (sc := defScope s__law_w_book) (by decide +kernel)) (fun _ _ _ _ _ => (pg_name (i := 4) nd rfl (by first | exact Or.inl rfl | exact Or.inr rfl))) (fun _ _ _ _ _ => pts_nil) (fun _ _ _ _ _ => (pe_ix (r := rIxL K) ix_list (pe_lst (pa_cons pe_str (pa_cons pe_str (pa_cons pe_str pa_nil)))) (pe_cl (cl__law_draw S) hr (by decide) pass_none (by rfl) (pa_cons (pv 0) (pa_cons pe_int pa_nil))) (fun _ _ => rfl))))
    (pss_cons (ps_set (i := 6) nd rfl (by first | exact Or.inl rfl | exact Or.inr rfl) (pe_op op_add pe_int (pe_cl (cl__law_draw S) hr (by decide) pass_none (by rfl) (pa_cons (pv 0) (pa_cons (pe_callB (r := rMin2) (id := "min") (call_min2 rfl) (by rfl) S.free_min (by decide +kernel) (pa_cons pe_int (pa_cons (pe_op op_sub (pe_callB (r := rLenQ K) (id := "len") call_len_seq (by rfl) S.free_len (by decide +kernel) (pa_cons (pv 5) pa_nil)) pe_int) pa_nil))) pa_nil)))))
    (pss_one (ps_expr (pe_bmK (K := K) (r := rAppend) rfl PySem.F.plainAttrs_list PySem.F.slot_list_append PySem.F.type_list_append mt_append (pv 2) (pa_cons (pe_tup (pa_cons (pe_bmK (K := K) (r := rJoinQ K) rfl PySem.F.plainAttrs_str PySem.F.slot_str_join PySem.F.type_str_join mt_join pe_str (pa_cons (pe_slice (r := rSlL K) sl_list (pv 5) po_none (po_some (pv 6))) pa_nil)) (pa_cons (pe_bmK (K := K) (r := rJoinQ K) rfl PySem.F.plainAttrs_str PySem.F.slot_str_join PySem.F.type_str_join mt_join pe_str (pa_cons (pe_slice (r := rSlL K) sl_list (pv 5) (po_some (pv 6)) po_none) pa_nil)) pa_nil))) pa_nil))))))))) pss_nil)
    (pss_cons (ps_set (i := 7) nd rfl (by first | exact Or.inl rfl | exact Or.inr rfl) (pe_dictZip (K := K) rfl rfl (by rfl) S.free_dict (by rfl) S.free_zip (pa_cons pe_str (pa_cons (pe_cl (cl__law_mixed S) hr (by decide) pass_none (by rfl) (pa_cons (pv 0) (pa_cons pe_str pa_nil))) pa_nil))))
    (pss_one (ps_ret (pe_lc (own := [("rule", 8)]) rfl nd (pi_listK (K := K) rfl (pv 2)) (blkOk_by (N := ["stream", "some", "rules", "k", "n", "sides_v", "at", "names", "rule", "side", "sign"]) (sc := defScope s__law_w_book) (by decide +kernel)) (fun _ _ _ _ _ => (pg_name (i := 8) nd rfl (by first | exact Or.inl rfl | exact Or.inr rfl))) (fun _ _ _ _ _ => pts_nil) (fun _ _ _ _ _ => (pe_callTy (r := rTupQ K) (T := "tuple") call_tuple_of (by rfl) S.free_tuple (by decide +kernel) (pa_cons (pe_lc (own := [("side", 9)]) rfl nd (pi_tupK (K := K) rfl (pv 8)) (blkOk_by (N := ["stream", "some", "rules", "k", "n", "sides_v", "at", "names", "rule", "side", "sign"]) (by kernel_rfl)) (fun _ _ _ _ _ => (pg_name (i := 9) nd rfl (by first | exact Or.inl rfl | exact Or.inr rfl))) (fun _ _ _ _ _ => pts_nil) (fun _ _ _ _ _ => (pe_bmK (K := K) (r := rJoinQ K) rfl PySem.F.plainAttrs_str PySem.F.slot_str_join PySem.F.type_str_join mt_join pe_str (pa_cons (pe_lc (own := [("sign", 10)]) rfl nd (pi_str (pv 9)) (blkOk_by (N := ["stream", "some", "rules", "k", "n", "sides_v", "at", "names", "rule", "side", "sign"]) (by kernel_rfl)) (fun _ _ _ _ _ => (pg_name (i := 10) nd rfl (by first | exact Or.inl rfl | exact Or.inr rfl))) (fun _ _ _ _ _ => pts_nil) (fun _ _ _ _ _ => (pe_dget (u1 hr) (pv 7) (pv 10) (fun _ _ => rfl)))) pa_nil)))) pa_nil)))))))))), ?_⟩
  obtain ⟨F0, ⟨⟩, l, s, n, r, rfl, e0, fl, fs, st, hn, rfl, hQ⟩ := h
  have hn : n + 60 ≤ 1000000 := hn
  have kn := Kn.startS e0 fl fs st
  refine q_asg (d := .list (menuW.map rulesD)) kn ?_ fun v1 F1 H1 s1 hv1 => ?_
  · have one : ∀ {te : TE} {a b : Str}, EvD (tTup (tCons (tC (.str a)) (tCons (tC (.str b)) tNil))) (L2.start ["stream", "some", "rules", "k", "n", "sides_v", "at", "names", "rule", "side", "sign"] [.ref l]) F0 (ruleD (a, b)) := fun {te a b} => d_tup (da_cons d_str (da_cons d_str da_nil))
    refine d_lst (ds := menuW.map rulesD) ?_ (by decide)
    repeat' first
      | exact da_nil
      | exact d_str
      | refine da_cons ?_ ?_
      | refine d_lst ?_ (by decide)
      | refine d_tup ?_ (by decide)
  have st1 := st.ex s1.ex
  refine wp_asg (wp_op ⟨v1, rfl, wm_call 12 s1.kn st1 (by show n + 1 ≤ _; omega) rfl (pa_dr ((d_lenL (d_var rfl hv1)).is (by rw [List.length_map]; rfl)) (by omega) (by omega)) (mo_dr _) fun u F2 H2 s2 st2 ⟨d, hd, dl⟩ => ?_⟩)
  subst hd
  obtain ⟨a1, xs1, rfl, ha1, hxs1⟩ := (hv1.ex s2.ff).list_
  have hmd : menuW[d]? = some (menuW[d]'(by rw [menu_len]; exact dl)) := List.getElem?_eq_getElem _
  have okd := menu_ok _ (List.getElem_mem (show d < menuW.length by rw [menu_len]; exact dl))
  generalize menuW[d]'(by rw [menu_len]; exact dl) = rs0 at hmd okd
  obtain ⟨rv, hrv, hrd⟩ := hxs1.get (i := d) (d := rulesD rs0) (by rw [List.getElem?_map, hmd]; rfl)
  refine ⟨a1, xs1, _, rv, rfl, rfl, SqL.of (s2.kn.fh _ _ ha1), atI_nat hrv, ?_⟩
  refine wp_if (wp_test (wp_op (wm_call 3 s2.kn st2 (by show n + 1 + 1 ≤ _; omega) rfl (pa_dr d_int (by omega) (by omega)) (mo_dr _) fun u F3 H3 s3 st3 ⟨d3, hd3, dl3⟩ => ?_)))
  subst hd3
  refine wp_c ⟨rfl, _, rfl, ?_⟩
  by_cases zz : V.int (d3 : Nat) = V.int 0
  · rw [decide_eq_true zz, if_pos rfl]
    refine q_newN s3.kn da_nil (by simp) fun q xs F4 H4 s4 hq0 hq1 hq hxs => ?_
    cases hxs.nil_
    have ql : q ≠ l := fun z => st3.has l (.inl rfl) (by rw [← z]; exact hq1)
    have qs : q ≠ s := fun z => st3.has s (.inr rfl) (by rw [← z]; exact hq1)
    have h0q : H q = none := s3.kn.dm q hq1
    have st4 := st3.ex s4.ex
    refine wp_for (wp_rng1 (wp_cons (wp_op (wp_c ?_))))
    refine wm_call 3 s4.kn st4 (by show n + 1 + 1 + 1 ≤ _; omega) rfl (pa_dr d_int (by omega) (by omega)) (mo_dr _) fun u F5 H5 s5 st5 ⟨d5, hd5, dl5⟩ => ?_
    subst hd5
    refine ⟨1, d5, rfl, rfl, ?_⟩
    show ∃ j : Int, _
    refine ⟨1 + (d5 : Int), rfl, by omega, by omega, ?_⟩
    have en : (1 + (d5 : Int)).toNat = d5 + 1 := by omega
    rw [en]
    refine for_turnsQ (m := d5 + 1) s5.kn (fun i σ' F' H' => (∃ y3 y5 y6, σ' = [some (.ref l), some (.ref a1), some (.ref q), y3, none, y5, y6, none, none, none, none]) ∧ F' q = none ∧ StA l s (n + 3 + 6 * i) H' ∧ ∃ (vs : List V) (rs : List Rule), H' q = some (.lst vs) ∧ DtAll F' vs (rs.map ruleD) ∧ rs.length = i ∧ ∀ r ∈ rs, sdB r.1 = true ∧ sdB r.2 = true) ?_ ?_ ?_
    · exact ⟨⟨none, none, none, rfl⟩, s5.fr _ _ hq hq0, st5, [], [], em_at s5.hm hq ql qs, .nil, rfl, fun r h => by cases h⟩
    · rintro i σ' F' H' il kn' eF ⟨⟨y3, y5, y6, rfl⟩, g2, g3, vs, rs, g4, g5, g6, g7⟩ N hN
      refine wp_asg (w_abc kn' g3 (by omega) rfl (fun _ => rfl) (fun _ => rfl) fun D6 zs F6 H6 k6 e6 m6 fr6 st6 hz6 zA z2 z4 => ?_)
      have hq6 : H6 q = some (.lst vs) := em_at m6 g4 ql qs
      have fq6 := fr6 _ _ g4 g2
      have zl : ((zs.map PyData.str).length : Int) = (zs.length : Nat) := by rw [List.length_map]
      refine wp_asg (wp_op (wp_c (wm_call (min 2 (zs.length - 1)) k6 st6 (by show _ + 1 ≤ _; omega) rfl (pa_dr ((d_min2 d_int (d_sub (d_lenL (d_var rfl hz6)) d_int)).is ?_) (by omega) (by omega)) (mo_dr _) fun u F7 H7 s7 st7 ⟨d7, hd7, dl7⟩ => ?_)))
      · rw [zl]
        congr 1
        split <;> omega
      subst hd7
      refine ⟨1, d7, rfl, rfl, ?_⟩
      show tDrop _ _ _ _
      have hz7 := hz6.ex s7.ff
      have hq7 := em_at s7.hm hq6 ql qs
      have fq7 := s7.fr _ _ hq6 fq6
      have vl : vs.length = i := by rw [g5.len, List.length_map, g6]
      have e7 : ((1 : Int) + ((d7 : Nat) : Int)) = ((d7 + 1 : Nat) : Int) := by omega
      have t1 : 1 ≤ (zs.take (d7 + 1)).length ∧ (zs.take (d7 + 1)).length ≤ 8 := by rw [List.length_take]; omega
      have t2 : 1 ≤ (zs.drop (d7 + 1)).length ∧ (zs.drop (d7 + 1)).length ≤ 8 := by rw [List.length_drop]; omega
      have A1 : ∀ y ∈ zs.take (d7 + 1), IsA y := fun y hy => zA y (List.mem_of_mem_take hy)
      have A2 : ∀ y ∈ zs.drop (d7 + 1), IsA y := fun y hy => zA y (List.mem_of_mem_drop hy)
      have one : ∀ {ys : List Str}, (∀ y ∈ ys, IsA y) → ys.length ≤ 8 → (ys.map (·.length)).sum + ys.length * ("" : Str).length ≤ 16777216 := fun {ys} h hl => by
        rw [sum_ones fun y hy => by rcases h y hy with rfl | rfl | rfl <;> decide +kernel]
        show ys.length + ys.length * 0 ≤ _
        omega
      refine k_app s7.kn hq7 fq7 h0q (ev_var rfl) (d := ruleD (Txt.join "" (zs.take (d7 + 1)), Txt.join "" (zs.drop (d7 + 1)))) (d_tup (da_cons (d_joinL (ys := zs.take (d7 + 1)) d_str ((d_slL (d_var rfl hz7) do_none (do_some (d_var rfl (.int _)))).is ?_) (one A1 t1.2)) (da_cons (d_joinL (ys := zs.drop (d7 + 1)) d_str ((d_slL (d_var rfl hz7) (do_some (d_var rfl (.int _))) do_none).is ?_) (one A2 t2.2)) da_nil))) (by omega) fun v11 F11 H11 k11 e11 fn11 hv11 hl11 o11 fr11 => ?_
      · rw [e7, cutD_lo, ← List.map_take]
      · rw [e7, cutD_hi, ← List.map_drop]
      · have fa : Ex F' F11 := (e6.trans s7.ff).trans e11
        refine hN _ F11 H11 k11 fa ⟨⟨_, _, _, rfl⟩, fn11, ?_, vs ++ [v11], rs ++ [(Txt.join "" (zs.take (d7 + 1)), Txt.join "" (zs.drop (d7 + 1)))], hl11, ?_, by rw [List.length_append, g6]; rfl, fun r hr => ?_⟩
        · exact (st7.keep ql qs o11).mono (by show _ + 5 + 1 ≤ _; omega)
        · rw [List.map_append]
          exact (g5.ex fa).snoc hv11
        · rcases List.mem_append.mp hr with q | q
          · exact g7 r q
          · rw [List.mem_singleton.mp q]
            exact ⟨sd_join A1 t1.1 t1.2, sd_join A2 t2.1 t2.2⟩
    · rintro σ' F' H' kn' eF ⟨⟨y3, y5, y6, rfl⟩, g2, g3, vs, rs, g4, g5, g6, g7⟩
      have kn2 := kn'.know g2 h0q g4
      refine w_names (rs := rs) (fun v H' e st' hv => hQ v H' e (st'.mono (by show _ ≤ n + 60; omega)) hv) kn2 g3 (by omega) rfl (.lst upd_same (g5.ex (ex_know g2))) ?_
      unfold bkB
      rw [Bool.and_eq_true, Bool.and_eq_true]
      refine ⟨decide_eq_true (fun z => by rw [z] at g6; cases g6), decide_eq_true (by omega), List.all_eq_true.mpr fun r hr => ?_⟩
      rw [Bool.and_eq_true]
      exact g7 r hr
  · rw [decide_eq_false zz, if_neg (by decide)]
    exact w_names (rs := rs0) (fun v H' e st' hv => hQ v H' e (st'.mono (by show _ ≤ n + 60; omega)) hv) s3.kn st3 (by omega) rfl (hrd.ex s3.ff) okd
end
end K10
namespace K10
open PySem PySem.Spec PyProof.Rows L2 Evl WB
section
variable {P : Program} {w : World} {K : PySem.W.Frag} {mg : Str → Option Value} {base : Heap}
theorem wp_asg' {σ : L2.St} {H : Hp} {te : TE} {D : Ends} {i : Nat} (h : te σ H fun v H1 => D.nx (σ.set i (some v)) H1) : tAsg te (gName i) D σ H := h
abbrev AWd : (List Rule × Nat) → Hp → List V → Prop := fun x H vs => BkSm x.1 ∧ x.1 ≠ [] ∧ x.2 ≤ 30 ∧ ∃ v, vs = [v, .int (x.2 : Nat)] ∧ Dt H v (rulesD x.1)
abbrev RWd : (List Rule × Nat) → Hp → V → Prop := fun x _ v => ∃ z : Str, v = .str z ∧ isW z = true ∧ z.length ≤ 8 * x.2
theorem mo_wd (x : List Rule × Nat) : Mo (RWd x) := fun _ _ _ _ h => h
theorem cl__law_w_word (S : Env P w K mg base) : Cl P w K mg base 3 "_law_w_word" ["stream", "rules", "many"] (SpM (fun _ => 60) AWd RWd) := mk_cl S.fun__law_w_word S.glo__law_w_word sc__law_w_word (fun _ _ _ _ _ _ us hl => match us, hl with | [_, _, _], _ => rfl) (m_len fun _ _ _ ⟨_, _, _, _, e, _⟩ => by rw [e]; rfl) fun cdv A outer s H vs Q E hr h => by
  have nd := sc__law_w_word.nd
  refine ⟨_, (pss_cons (ps_set (i := 3) nd rfl (by first | exact Or.inl rfl | exact Or.inr rfl) pe_str)
    (pss_cons (ps_for (passes_of rfl) rfl (pi_range1 rfl S.free_range (pa_cons (pv 2) pa_nil)) (pg_name (i := 4) nd rfl (by first | exact Or.inl rfl | exact Or.inr rfl))
    (pss_one (ps_set (i := 3) nd rfl (by first | exact Or.inl rfl | exact Or.inr rfl) (pe_op op_add_str (pv 3) (pe_cl (cl__law_pick S) hr (by decide) pass_none (by rfl) (pa_cons (pv 0) (pa_cons (pe_cl (cl__law_pick S) hr (by decide) pass_none (by rfl) (pa_cons (pv 0) (pa_cons (pv 1) pa_nil))) pa_nil)))))))
    (pss_one (ps_ret (pv 3))))), ?_⟩
  obtain ⟨F0, ⟨rs, many⟩, l, s, n, r, rfl, e0, fl, fs, st, hn, ⟨ok, rn, hm, v, rfl, hv⟩, hQ⟩ := h
  have hn : n + 60 ≤ 1000000 := hn
  have ok : BkSm rs := ok
  have rn : rs ≠ [] := rn
  have hm : many ≤ 30 := hm
  replace hv : Dt F0 v (rulesD rs) := hv
  have nr := ok.n
  have kn := Kn.startS e0 fl fs st
  refine q_asg (d := .str "") kn d_str fun v1 F1 H1 s1 hv1 => ?_
  cases hv1.str_
  have st1 := st.ex s1.ex
  refine q_for s1.kn (wk_rng1 (n := ((many : Nat) : Int)) (da_cons (d_var rfl (.int _)) da_nil) ⟨by omega, by omega⟩) (fun i σ' F' H' => (∃ (z : Str) (y4 : Option V), σ' = [some (.ref l), some v, some (.int (many : Nat)), some (.str z), y4] ∧ isW z = true ∧ z.length ≤ 8 * i) ∧ Dt F' v (rulesD rs) ∧ StA l s (n + 2 * i) H') ?_ ?_ ?_ ?_
  · intro F6 H6 s6
    exact ⟨⟨"", none, rfl, isW_nil, Nat.zero_le _⟩, (hv.ex s1.ff).ex s6.ff, st1.ex s6.ex⟩
  · rintro i σ' F' H' H2 ⟨h1, g1, g2⟩ kn' e
    exact ⟨h1, g1.ex (kn'.step (H1 := H2) e).ff, g2.ex e⟩
  · rintro i d yy σ' F' H' hi kn' eF hd ⟨⟨z, y4, rfl, zw, zl⟩, g1, g2⟩ N hN
    have il : i < many := by
      have zz := (List.getElem?_eq_some_iff.mp hi).1
      rw [rngD_len] at zz
      omega
    refine wp_asg' (wp_op ⟨_, rfl, ?_⟩)
    refine ⟨_, rfl, ?_⟩
    refine wp_cons (wm_call (rulesD rs) kn' g2 (by show _ + 1 ≤ _; omega) rfl (pa_pk (d_var rfl g1) (by show rs.map ruleD ≠ []; simp [rn]) (by show (rs.map ruleD).length ≤ _; rw [List.length_map]; omega)) (mo_pk _) fun v5 F5 H5 s5 st5 ⟨dd, hdd, hv5⟩ => ?_)
    obtain ⟨q, hq, rfl⟩ := List.mem_map.mp (show dd ∈ rs.map ruleD from hdd)
    have qs := ok.r q hq
    show SpM (fun _ => 1) APk RPk [.ref l, v5] H5 _ (fun _ _ _ => False)
    refine ⟨F5, ruleD q, l, s, n + 2 * i + 1, [v5], rfl, s5.kn.fh, s5.kn.md l (.inl rfl), s5.kn.md s (.inr rfl), st5, by show n + 2 * i + 1 + 1 ≤ _; omega, ⟨(by intro z; cases z), (by show 2 ≤ _; omega), v5, rfl, hv5⟩, fun u H6 e6 st6 ⟨d, hd, hu⟩ => ?_⟩
    have s6 := s5.kn.stepM e6
    have fe : Ex F' (nw F5 H5 H6) := s5.ff.trans s6.ff
    have fin : ∀ y : Str, isW y = true → y.length ≤ 8 → N [some (.ref l), some v, some (.int (many : Nat)), some (.str (z ++ y)), some yy] H6 := fun y yw yl => hN _ _ H6 s6.kn fe ⟨⟨z ++ y, some yy, rfl, isW_app zw yw, by rw [app_len]; omega⟩, g1.ex fe, st6.mono (by show n + 2 * i + 1 + 1 ≤ _; omega)⟩
    rcases List.mem_cons.mp (show d ∈ [PyData.str q.1, PyData.str q.2] from hd) with e | e
    · subst e
      cases hu.str_
      exact ⟨z, q.1, rfl, rfl, sz_of (by have := qs.2.1; omega), fin q.1 qs.1.w1 qs.2.1⟩
    · cases List.mem_singleton.mp e
      cases hu.str_
      exact ⟨z, q.2, rfl, rfl, sz_of (by have := qs.2.2; omega), fin q.2 qs.1.w2 qs.2.2⟩
  · rintro σ' F' H' kn' eF ⟨⟨z, y4, rfl, zw, zl⟩, g1, g2⟩
    rw [rngD_len, show ((many : Nat) : Int).toNat = many by omega] at zl g2
    exact kM_fin (T := RWd (rs, many)) hQ (mo_wd _) kn' (g2.mono (by show _ ≤ n + 60; omega)) (EvP.imp (EvD.toP (d_var rfl (.str z))) fun H v hv => ⟨z, hv.str_, zw, zl⟩)
end
end K10
namespace K10
open PySem PySem.Spec PyProof.Rows L2 Evl WB
section
variable {P : Program} {w : World} {K : PySem.W.Frag} {mg : Str → Option Value} {base : Heap}
def stAt (p r : Nat) : List WStep := [(p, r, true), (p, r, false)]
def canS (rs : List Rule) (z : Str) (s : WStep) : Bool := match rs[s.2.1]? with
  | some q => canR q z s
  | none => false
def cellS (rs : List Rule) (z : Str) (p r : Nat) : List WStep := (stAt p r).filter (canS rs z)
def rowS (rs : List Rule) (z : Str) (p n : Nat) : List WStep := (List.range n).flatMap (cellS rs z p)
def allS (rs : List Rule) (z : Str) (n : Nat) : List WStep := (List.range n).flatMap fun p => rowS rs z p rs.length
theorem flat_s {α : Type} (f : Nat → List α) (n : Nat) : (List.range (n + 1)).flatMap f = (List.range n).flatMap f ++ f n := by
  rw [List.range_succ, List.flatMap_append]
  simp
theorem cellS_len (rs : List Rule) (z : Str) (p r : Nat) : (cellS rs z p r).length ≤ 2 := by
  unfold cellS
  exact List.length_filter_le ..
theorem rowS_len (rs : List Rule) (z : Str) (p : Nat) : ∀ n, (rowS rs z p n).length ≤ 2 * n
  | 0 => Nat.zero_le _
  | n + 1 => by
    have h1 := rowS_len rs z p n
    have h2 := cellS_len rs z p n
    unfold rowS at h1 ⊢
    rw [flat_s, List.length_append]
    omega
theorem allS_len (rs : List Rule) (z : Str) : ∀ n, (allS rs z n).length ≤ 2 * rs.length * n
  | 0 => Nat.zero_le _
  | n + 1 => by
    have h1 := allS_len rs z n
    have h2 := rowS_len rs z n rs.length
    unfold allS at h1 ⊢
    rw [flat_s, List.length_append, Nat.mul_succ]
    omega
theorem allS_mem {rs : List Rule} {z : Str} {n : Nat} {s : WStep} (h : s ∈ allS rs z n) : ∃ q, rs[s.2.1]? = some q ∧ canR q z s = true := by
  unfold allS rowS cellS at h
  obtain ⟨p, _, h⟩ := List.mem_flatMap.mp h
  obtain ⟨r, _, h⟩ := List.mem_flatMap.mp h
  have c := (List.mem_filter.mp h).2
  unfold canS at c
  cases q : rs[s.2.1]? with
  | none => rw [q] at c; cases c
  | some q' => rw [q] at c; exact ⟨q', rfl, c⟩
def c_w_all (ds : List PyData) (r : PyData) : Prop := ∃ (rs : List Rule) (z : Str), ds = [rulesD rs, .str z] ∧ BkSm rs ∧ z.length ≤ 1000 ∧ r = stepsD (allS rs z z.length)
theorem cl__law_w_all (S : Env P w K mg base) : Cl P w K mg base 3 "_law_w_all" ["rules", "word"] (SpD c_w_all) := mk_cl S.fun__law_w_all S.glo__law_w_all sc__law_w_all (fun _ _ _ _ _ _ us hl => match us, hl with | [_, _], _ => rfl) (SpD.len fun _ _ ⟨_, _, e, _⟩ => e ▸ rfl) fun cdv A outer s H vs Q E hr h => by
  have nd := sc__law_w_all.nd
  refine ⟨_, (pss_cons (ps_set (i := 2) nd rfl (by first | exact Or.inl rfl | exact Or.inr rfl) (pe_lst pa_nil))
    (pss_cons (ps_for (passes_of rfl) rfl (pi_range1 rfl S.free_range (pa_cons (pe_callB (r := rLenSQ) (id := "len") call_len_str (by rfl) S.free_len (by decide +kernel) (pa_cons (pv 1) pa_nil)) pa_nil)) (pg_name (i := 3) nd rfl (by first | exact Or.inl rfl | exact Or.inr rfl))
    (pss_one (ps_for (passes_of rfl) rfl (pi_range1 rfl S.free_range (pa_cons (pe_callB (r := rLenQ K) (id := "len") call_len_seq (by rfl) S.free_len (by decide +kernel) (pa_cons (pv 0) pa_nil)) pa_nil)) (pg_name (i := 4) nd rfl (by first | exact Or.inl rfl | exact Or.inr rfl))
    (pss_cons (ps_setLc (i := 6) (own := [("turn", 5)]) rfl nd rfl rfl (sw_true rfl rfl rfl (by decide +kernel)) (pi_tupK (K := K) rfl (pe_tup (pa_cons pe_str (pa_cons pe_str pa_nil)))) (blkOk_by (N := ["rules", "word", "found", "place", "rule", "turn", "some", "step"]) (sc := defScope s__law_w_all) (by decide +kernel)) (fun _ _ _ _ _ => (pg_name (i := 5) nd rfl (by first | exact Or.inl rfl | exact Or.inr rfl))) (fun _ _ _ _ _ => pts_nil) (fun _ _ _ _ _ => (pe_tup (pa_cons (pv 3) (pa_cons (pv 4) (pa_cons (pv 5) pa_nil))))))
    (pss_one (ps_expr (pe_bmK (K := K) (r := rExtend) rfl PySem.F.plainAttrs_list PySem.F.slot_list_extend PySem.F.type_list_extend mt_extend (pv 2) (pa_cons (pe_lc (own := [("step", 7)]) rfl nd (pi_listK (K := K) rfl (pv 6)) (blkOk_by (N := ["rules", "word", "found", "place", "rule", "turn", "some", "step"]) (sc := defScope s__law_w_all) (by decide +kernel)) (fun _ _ _ _ _ => (pg_name (i := 7) nd rfl (by first | exact Or.inl rfl | exact Or.inr rfl))) (fun _ _ _ _ _ => pts_one (pt_val (pe_cl (cl__law_w_can S) hr (by decide) pass_none (by rfl) (pa_cons (pv 0) (pa_cons (pv 1) (pa_cons (pv 7) pa_nil)))))) (fun _ _ _ _ _ => (pv 7))) pa_nil))))))))
    (pss_one (ps_ret (pv 2))))), ?_⟩
  obtain ⟨F0, ds, r, e0, hd, hc, hQ⟩ := h
  have kn := Kn.start e0
  obtain ⟨rs, z, rfl, ok, zl, rfl⟩ := hc
  obtain ⟨x, y, rfl, hx, hy⟩ := da2_ hd
  cases hy.str_
  have nr := ok.n
  refine q_newN kn da_nil (by simp) fun l xs F1 H1 s1 hl0 hl1 hl hxs => ?_
  cases hxs.nil_
  have h0l : H l = none := hl1
  refine q_for s1.kn (wk_rng1 (n := ((z.length : Nat) : Int)) (da_cons (d_lenS (d_var rfl (.str _)) (szS (by omega))) da_nil) ⟨by omega, by omega⟩) (fun i σ' F' H' => (∃ y3 y4 y5 y6 y7, σ' = [some x, some (.str z), some (.ref l), y3, y4, y5, y6, y7]) ∧ Dt F' x (rulesD rs) ∧ F' l = none ∧ ∃ vs, H' l = some (.lst vs) ∧ DtAll F' vs ((allS rs z i).map stepD)) ?_ ?_ ?_ ?_
  · intro F6 H6 s6
    exact ⟨⟨none, none, none, none, none, rfl⟩, (hx.ex s1.ff).ex s6.ff, s6.fr _ _ hl hl0, [], s6.ex _ _ hl, .nil⟩
  · rintro i σ' F' H' H2 ⟨hσ, g1, g2, vs, g5, g6⟩ kn' e
    have s := kn'.step (H1 := H2) e
    exact ⟨hσ, g1.ex s.ff, s.fr _ _ g5 g2, vs, e _ _ g5, g6.ex s.ff⟩
  · rintro i d yy σ' F' H' hi kn' eF hd ⟨⟨y3, y4, y5, y6, y7, rfl⟩, g1, g2, vs, g5, g6⟩ N hN
    have il : i < z.length := by
      have zz := (List.getElem?_eq_some_iff.mp hi).1
      rw [rngD_len] at zz
      omega
    rw [rngD_get (by omega), Int.zero_add] at hi
    cases hi
    cases hd.int_
    have al := allS_len rs z i
    have al2 : 2 * rs.length * i ≤ 28 * i := Nat.mul_le_mul_right _ (by omega)
    refine k_for kn' (wk_rng1 (n := ((rs.length : Nat) : Int)) (da_cons ((d_lenL (d_var rfl g1)).is (by rw [List.length_map])) da_nil) ⟨by omega, by omega⟩) (fun j σ' F' H' => (∃ y4 y5 y6 y7, σ' = [some x, some (.str z), some (.ref l), some (.int (i : Nat)), y4, y5, y6, y7]) ∧ Dt F' x (rulesD rs) ∧ F' l = none ∧ ∃ vs, H' l = some (.lst vs) ∧ DtAll F' vs ((allS rs z i ++ rowS rs z i j).map stepD)) ?_ ?_ ?_ ?_
    · intro F6 H6 s6
      exact ⟨⟨_, _, _, _, rfl⟩, g1.ex s6.ff, s6.fr _ _ g5 g2, vs, s6.ex _ _ g5, by
        rw [show rowS rs z i 0 = [] from rfl, List.append_nil]
        exact g6.ex s6.ff⟩
    · rintro j σ' F' H' H2 ⟨hσ, g1, g2, vs, g5, g6⟩ kn' e
      have s := kn'.step (H1 := H2) e
      exact ⟨hσ, g1.ex s.ff, s.fr _ _ g5 g2, vs, e _ _ g5, g6.ex s.ff⟩
    · rintro j d2 yy2 σ' F2 H2 hj kn2 eF2 hd2 ⟨⟨y4, y5, y6, y7, rfl⟩, k1, k2, vs2, k5, k6⟩ N2 hN2
      have jl : j < rs.length := by
        have zz := (List.getElem?_eq_some_iff.mp hj).1
        rw [rngD_len] at zz
        omega
      rw [rngD_get (by omega), Int.zero_add] at hj
      cases hj
      cases hd2.int_
      have rl := rowS_len rs z i j
      refine q_asg (d := stepsD (stAt i j)) kn2 (d_lcn (wk_tup (ds := [.str "on", .str "back"]) (d_tup (da_cons d_str (da_cons d_str da_nil)))) (by simp) rfl fun ii d r v F'' hi' hr e1 hd' => ?_) fun va F3 H3 s3 hva => ?_
      · match ii, hi', hr with
        | 0, hi', hr =>
          cases hi'
          cases hr
          cases hd'.str_
          exact d_tup (da_cons (d_var rfl (.int _)) (da_cons (d_var rfl (.int _)) (da_cons (d_var rfl (.str _)) da_nil)))
        | 1, hi', hr =>
          cases hi'
          cases hr
          cases hd'.str_
          exact d_tup (da_cons (d_var rfl (.int _)) (da_cons (d_var rfl (.int _)) (da_cons (d_var rfl (.str _)) da_nil)))
        | _ + 2, hi', _ => simp at hi'
      · have rj : rs[j]? = some rs[j] := List.getElem?_eq_getElem jl
        have rq := (ok.r _ (List.mem_of_getElem? rj)).1
        generalize rs[j] = q at rj rq
        have k1' := k1.ex s3.ff
        have vl := k6.len
        rw [List.length_map, List.length_append] at vl
        refine k_ext s3.kn (s3.ex _ _ k5) (s3.fr _ _ k5 k2) h0l (ev_var rfl) (ds := (cellS rs z i j).map stepD) ((d_lc (wk_list (d_var rfl hva)) (by simp [stAt]) (fun i' => canS rs z ((stAt i j).getD i' (0, 0, true))) (fun i' => stepD ((stAt i j).getD i' (0, 0, true))) fun i' d v F'' H'' hi' e1 e2 hd' Q' hQ' => ?_).is ?_) (by
          have := cellS_len rs z i j
          rw [List.length_map]
          omega) fun zs F4 H4 k4 e4 fn4 hzs hl4 o4 fr4 => ?_
        · obtain ⟨st, hst, rfl⟩ := map_at hi'
          have eg : (stAt i j).getD i' (0, 0, true) = st := by rw [List.getD_eq_getElem?_getD, hst]; rfl
          have e2 : st.2.1 = j := by
            have := List.mem_of_getElem? hst
            unfold stAt at this
            rcases List.mem_cons.mp this with z | z
            · rw [z]
            · rw [List.mem_singleton.mp z]
          have rst : rs[st.2.1]? = some q := by rw [e2]; exact rj
          have ec : canS rs z st = canR q z st := by unfold canS; rw [rst]
          refine hQ' ((wipe _ _).set 7 (some v)) rfl (et_is (t_B (d_call (da_cons (d_var rfl (k1'.ex e1)) (da_cons (d_var rfl (.str _)) (da_cons (d_var rfl hd') da_nil))) ⟨_, _, _, _, rfl, by omega, rq.sl _, rst, rfl⟩)) (by show canR q z st = canS rs z ((stAt i j).getD i' (0, 0, true)); rw [eg, ec])) fun _ => (d_var rfl hd').is (by show stepD st = stepD ((stAt i j).getD i' (0, 0, true)); rw [eg])
        · have rf := range_filter_map stepD (fun i' => canS rs z ((stAt i j).getD i' (0, 0, true))) (canS rs z) (fun i' => stepD ((stAt i j).getD i' (0, 0, true))) (stAt i j) fun i' x hx => by
            have eg : (stAt i j).getD i' (0, 0, true) = x := by rw [List.getD_eq_getElem?_getD, hx]; rfl
            exact ⟨by rw [eg], by rw [eg]⟩
          rw [List.length_map, rf]
          rfl
        · refine hN2 _ F4 H4 k4 (s3.ff.trans e4) ⟨⟨_, _, _, _, rfl⟩, k1'.ex e4, fn4, vs2 ++ zs, hl4, ?_⟩
          have es : rowS rs z i (j + 1) = rowS rs z i j ++ cellS rs z i j := flat_s _ _
          rw [es, ← List.append_assoc, List.map_append]
          exact (k6.ex (s3.ff.trans e4)).app hzs
    · rintro σ' F2 H2 kn2 eF2 ⟨⟨y4, y5, y6, y7, rfl⟩, k1, k2, vs2, k5, k6⟩
      refine hN _ F2 H2 kn2 eF2 ⟨⟨_, _, _, _, _, rfl⟩, k1, k2, vs2, k5, ?_⟩
      rw [rngD_len, show ((rs.length : Nat) : Int).toNat = rs.length by omega] at k6
      have es : allS rs z (i + 1) = allS rs z i ++ rowS rs z i rs.length := flat_s _ _
      rw [es]
      exact k6
  · rintro σ' F' H' kn' eF ⟨⟨y3, y4, y5, y6, y7, rfl⟩, g1, g2, vs, g5, g6⟩
    rw [rngD_len, show ((z.length : Nat) : Int).toNat = z.length by omega] at g6
    exact k_finL hQ kn' g5 g2 h0l g6 (ev_var rfl)
end
end K10
namespace K10
open PySem PySem.Spec PyProof.Rows L2 Evl WB
section
variable {P : Program} {w : World} {K : PySem.W.Frag} {mg : Str → Option Value} {base : Heap}
theorem steps_plain : ∀ ss : List WStep, plainDs (ss.map stepD) = true
  | [] => rfl
  | r :: rs => by
    rw [List.map_cons]
    unfold plainDs
    rw [steps_plain rs]
    rfl
theorem step_lay (s : WStep) : (stepD s).canLay0 = true := by
  obtain ⟨p, r, b⟩ := s
  have h : (PyData.str (turnS b)).canLay0 = true := by
    cases b
    · exact isW_ok (z := "back") (by decide +kernel)
    · exact isW_ok (z := "on") (by decide +kernel)
  unfold stepD
  simp only [PyData.canLay0, PyData.canLayAll0] at h ⊢
  rw [h]
  rfl
theorem steps_lay : ∀ ss : List WStep, PyData.canLayAll0 (ss.map stepD) = true
  | [] => by simp [PyData.canLayAll0]
  | s :: ss => by simp [PyData.canLayAll0, step_lay s, steps_lay ss]
theorem steps_depth : ∀ ss : List WStep, PyData.depthAll (ss.map stepD) ≤ 1
  | [] => by simp [PyData.depthAll]
  | s :: ss => by
    have h1 := steps_depth ss
    have h2 : (stepD s).depth = 1 := by simp [stepD, PyData.depth, PyData.depthAll]
    simp only [List.map_cons, PyData.depthAll]
    omega
theorem steps_shaped (ss : List WStep) : SeqAt.shaped (.list (ss.map stepD)) = true := by
  have h1 := steps_depth ss
  have h2 : PyData.depth (.list (ss.map stepD)) ≤ 64 := by
    simp only [PyData.depth]
    omega
  show (PyData.canLay0 (.list (ss.map stepD)) && decide (PyData.depth (.list (ss.map stepD)) ≤ 64)) = true
  rw [Bool.and_eq_true]
  exact ⟨by simp only [PyData.canLay0]; exact steps_lay ss, decide_eq_true h2⟩
theorem wy_snoc {rs : List Rule} {q : Rule} {s : WStep} (hq : rs[s.2.1]? = some q) : ∀ {z : Str} {ss : List WStep}, WyOk rs z ss → canR q (endW rs z ss) s = true → (doneR q (endW rs z ss) s).length ≤ 1000 → WyOk rs z (ss ++ [s]) ∧ endW rs z (ss ++ [s]) = doneR q (endW rs z ss) s
  | z, [], h1, h2, h3 => ⟨⟨h1, q, hq, h2, h3⟩, endW_c hq⟩
  | z, t :: r, ⟨h1, q', hq', hc, hr⟩, h2, h3 => by
    rw [endW_c hq'] at h2 h3 ⊢
    obtain ⟨a, b⟩ := wy_snoc hq hr h2 h3
    refine ⟨⟨h1, q', hq', hc, a⟩, ?_⟩
    show endW rs z (t :: (r ++ [s])) = _
    rw [endW_c hq']
    exact b
structure WayX where
  rs : List Rule
  z : Str
  many : Nat
  most : Nat
abbrev AWw : WayX → Hp → List V → Prop := fun x H vs => BkSm x.rs ∧ isW x.z = true ∧ x.z.length ≤ x.most ∧ x.most ≤ 1000 ∧ x.many ≤ 100 ∧ ∃ v, vs = [v, .str x.z, .int (x.many : Nat), .int (x.most : Nat)] ∧ Dt H v (rulesD x.rs)
abbrev RWw : WayX → Hp → V → Prop := fun x H v => ∃ ss : List WStep, Dt H v (stepsD ss) ∧ WyOk x.rs x.z ss ∧ ss.length ≤ x.many
theorem mo_ww (x : WayX) : Mo (RWw x) := fun _ _ _ e ⟨ss, h1, h2⟩ => ⟨ss, h1.ex e, h2⟩
theorem cl__law_w_way (S : Env P w K mg base) : Cl P w K mg base 4 "_law_w_way" ["stream", "rules", "word", "many", "most"] (SpM (fun _ => 100) AWw RWw) := mk_cl S.fun__law_w_way S.glo__law_w_way sc__law_w_way (fun _ _ _ _ _ _ us hl => match us, hl with | [_, _, _, _, _], _ => rfl) (m_len fun _ _ _ ⟨_, _, _, _, _, _, e, _⟩ => by rw [e]; rfl) fun cdv A outer s H vs Q E hr h => by
  have nd := sc__law_w_way.nd
  refine ⟨_, (pss_cons (ps_set (i := 5) nd rfl (by first | exact Or.inl rfl | exact Or.inr rfl) (pe_lst pa_nil))
    (pss_cons (ps_for (passes_of rfl) rfl (pi_range1 rfl S.free_range (pa_cons (pv 3) pa_nil)) (pg_name (i := 6) nd rfl (by first | exact Or.inl rfl | exact Or.inr rfl))
    (pss_cons (ps_set (i := 7) nd rfl (by first | exact Or.inl rfl | exact Or.inr rfl) (pe_cl (cl__law_w_end S) hr (by decide) pass_none (by rfl) (pa_cons (pv 1) (pa_cons (pv 2) (pa_cons (pv 5) pa_nil)))))
    (pss_cons (ps_setLc (i := 9) (own := [("step", 8)]) rfl nd rfl rfl (sw_true rfl rfl rfl (by decide +kernel)) (pi_listK (K := K) rfl (pe_cl (cl__law_w_all S) hr (by decide) pass_none (by rfl) (pa_cons (pv 1) (pa_cons (pv 7) pa_nil)))) (blkOk_by (N := ["stream", "rules", "word", "many", "most", "found", "k", "here", "step", "some"]) (sc := defScope s__law_w_way) (by decide +kernel)) (fun _ _ _ _ _ => (pg_name (i := 8) nd rfl (by first | exact Or.inl rfl | exact Or.inr rfl))) (fun _ _ _ _ _ => pts_one (pt_cmpR op_le (pe_callB (r := rLenSQ) (id := "len") call_len_str (by rfl) S.free_len (by decide +kernel) (pa_cons (pe_cl (cl__law_w_done S) hr (by decide) pass_none (by rfl) (pa_cons (pv 1) (pa_cons (pv 7) (pa_cons (pv 8) pa_nil)))) pa_nil)) (pv 4) (nomark _))) (fun _ _ _ _ _ => (pv 8)))
    (pss_one (ps_if (pt_cmpR (r := rNeD K) (op_neD hr.units) (pv 9) (pe_lst pa_nil) (nomark _)) (pss_one (ps_expr (pe_bmK (K := K) (r := rAppend) rfl PySem.F.plainAttrs_list PySem.F.slot_list_append PySem.F.type_list_append mt_append (pv 5) (pa_cons (pe_cl (cl__law_pick S) hr (by decide) pass_none (by rfl) (pa_cons (pv 0) (pa_cons (pv 9) pa_nil))) pa_nil)))) pss_nil)))))
    (pss_one (ps_ret (pv 5))))), ?_⟩
  obtain ⟨F0, ⟨rs, z, many, most⟩, l, s, n, r, rfl, e0, fl, fs, st, hn, ⟨ok, zw, hm1, hm2, hm3, v, rfl, hv⟩, hQ⟩ := h
  have hn : n + 100 ≤ 1000000 := hn
  have hm1 : z.length ≤ most := hm1
  have hm2 : most ≤ 1000 := hm2
  have hm3 : many ≤ 100 := hm3
  have ok : BkSm rs := ok
  replace zw : isW z = true := zw
  replace hv : Dt F0 v (rulesD rs) := hv
  have nr := ok.n
  have kn := Kn.startS e0 fl fs st
  refine q_newN kn da_nil (by simp) fun p xs F1 H1 s1 hp0 hp1 hp hxs => ?_
  cases hxs.nil_
  have st1 := st.ex s1.ex
  have pl : p ≠ l := fun z => by rw [z] at hp1; exact st.has l (.inl rfl) hp1
  have ps : p ≠ s := fun z => by rw [z] at hp1; exact st.has s (.inr rfl) hp1
  refine q_for s1.kn (wk_rng1 (n := ((many : Nat) : Int)) (da_cons (d_var rfl (.int _)) da_nil) ⟨by omega, by omega⟩) (fun i σ' F' H' => (∃ y6 y7 y8 y9, σ' = [some (.ref l), some v, some (.str z), some (.int (many : Nat)), some (.int (most : Nat)), some (.ref p), y6, y7, y8, y9]) ∧ Dt F' v (rulesD rs) ∧ F' p = none ∧ StA l s (n + i) H' ∧ ∃ (vs : List V) (ss : List WStep), H' p = some (.lst vs) ∧ DtAll F' vs (ss.map stepD) ∧ WyOk rs z ss ∧ (endW rs z ss).length ≤ most ∧ ss.length ≤ i) ?_ ?_ ?_ ?_
  · intro F6 H6 s6
    exact ⟨⟨none, none, none, none, rfl⟩, (hv.ex s1.ff).ex s6.ff, s6.fr _ _ hp hp0, st1.ex s6.ex, [], [], s6.ex _ _ hp, .nil, (by show z.length ≤ 1000; omega), hm1, Nat.le_refl _⟩
  · rintro i σ' F' H' H2 ⟨hσ, g1, g2, g3, vs, ss, g5, g6, g7⟩ kn' e
    have s := kn'.step (H1 := H2) e
    exact ⟨hσ, g1.ex s.ff, s.fr _ _ g5 g2, g3.ex e, vs, ss, e _ _ g5, g6.ex s.ff, g7⟩
  · rintro i d yy σ' F' H' hi kn' eF hd ⟨⟨y6, y7, y8, y9, rfl⟩, g1, g2, g3, vs, ss, g5, g6, g7, g8, g9⟩ N hN
    have il : i < many := by
      have zz := (List.getElem?_eq_some_iff.mp hi).1
      rw [rngD_len] at zz
      omega
    have kw : Ex F' (upd F' p (.lst vs)) := ex_know g2
    refine q_asgS kn' (ex_own kn' g5) (d_call (da_cons (d_var rfl (g1.ex kw)) (da_cons (d_var rfl (.str _)) (da_cons (d_var rfl (dt_own g2 g6)) da_nil))) ⟨_, _, _, rfl, ok.ok, g7, rfl⟩) rfl fun F2 H2 s2 => ?_
    generalize hz : endW rs z ss = here at g8 ⊢
    have g1' := g1.ex s2.ff
    have hl : here.length ≤ 1000 := by omega
    have al := allS_len rs here here.length
    have al2 : 2 * rs.length * here.length ≤ 28 * here.length := Nat.mul_le_mul_right _ (by omega)
    refine q_asg (d := stepsD ((allS rs here here.length).filter fun s => decide ((doneS rs here s).length ≤ most))) s2.kn ((d_lc (wk_list (d_call (d := stepsD (allS rs here here.length)) (da_cons (d_var rfl g1') (da_cons (d_var rfl (.str _)) da_nil)) ⟨_, _, rfl, ok, hl, rfl⟩)) (by rw [List.length_map]; omega) (fun i' => decide ((doneS rs here ((allS rs here here.length).getD i' (0, 0, true))).length ≤ most)) (fun i' => stepD ((allS rs here here.length).getD i' (0, 0, true))) fun i' d v F'' H'' hi' e1 e2 hd' Q' hQ' => ?_).is ?_) fun va F3 H3 s3 hva => ?_
    · obtain ⟨st', hst, rfl⟩ := map_at hi'
      obtain ⟨q, hq, hcan⟩ := allS_mem (List.mem_of_getElem? hst)
      have rq := ok.r q (List.mem_of_getElem? hq)
      have eg : (allS rs here here.length).getD i' (0, 0, true) = st' := by rw [List.getD_eq_getElem?_getD, hst]; rfl
      have ed : doneS rs here st' = doneR q here st' := by unfold doneS; rw [hq]
      have ci := can_in hcan (rq.1.s0 _)
      have dl := done_len ci
      have gg := rq.1.gl st'.2.2
      refine hQ' ((wipe _ _).set 8 (some _)) rfl (et_is (t_val (d_cmp (d_lenS (d_call (da_cons (d_var rfl (g1'.ex e1)) (da_cons (d_var rfl (.str _)) (da_cons (d_var rfl hd') da_nil))) ⟨_, _, _, _, rfl, by omega, rq.1.sl _, rq.1.gl _, hq, rfl⟩) (szS (by omega))) (d_var rfl (.int _)))) ?_) fun _ => (d_var rfl hd').is (by show stepD st' = stepD ((allS rs here here.length).getD i' (0, 0, true)); rw [eg])
      show decide _ = decide ((doneS rs here ((allS rs here here.length).getD i' (0, 0, true))).length ≤ most)
      rw [eg, ed]
      exact decide_eq_decide.mpr ⟨fun h => by omega, fun h => by omega⟩
    · rw [List.length_map, range_filter_map stepD _ (fun s => decide ((doneS rs here s).length ≤ most)) _ (allS rs here here.length) fun i' x hx => by
        have eg : (allS rs here here.length).getD i' (0, 0, true) = x := by rw [List.getD_eq_getElem?_getD, hx]; rfl
        exact ⟨by rw [eg], by rw [eg]⟩]
      rfl
    · have sm : ∀ s' ∈ (allS rs here here.length).filter (fun s => decide ((doneS rs here s).length ≤ most)), ∃ q, rs[s'.2.1]? = some q ∧ canR q here s' = true ∧ (doneR q here s').length ≤ most := fun s' hs' => by
        obtain ⟨m1, m2⟩ := List.mem_filter.mp hs'
        obtain ⟨q, hq, hcan⟩ := allS_mem m1
        have m2' := of_decide_eq_true m2
        unfold doneS at m2'
        rw [hq] at m2'
        exact ⟨q, hq, hcan, m2'⟩
      have sl : ((allS rs here here.length).filter fun s => decide ((doneS rs here s).length ≤ most)).length ≤ 28000 := Nat.le_trans (List.length_filter_le ..) (by omega)
      generalize (allS rs here here.length).filter (fun s => decide ((doneS rs here s).length ≤ most)) = so at hva sm sl
      have t3 := s2.trans s3
      have st3 := (g3.ex s2.ex).ex s3.ex
      have g5' := t3.ex _ _ g5
      have g2' := t3.fr _ _ g5 g2
      refine wp_ifE (wp_t (et_is (et_test (EvD.evb (d_neD (d1 := stepsD so) (d2 := .list []) (d_var rfl hva) (d_lst da_nil) (by unfold stepsD plainD; exact steps_plain _) rfl (steps_shaped _) (ints_shaped [])))) (congrArg (fun b => !b) (eqv_nil stepD so))) s3.kn.fh fun H4 e4 => ?_)
      have s4 := s3.kn.step e4
      have t4 := t3.trans s4
      have vl : vs.length = ss.length := by rw [g6.len, List.length_map]
      by_cases h0 : so = []
      · rw [decide_eq_true h0, if_neg (by decide)]
        exact hN _ _ H4 s4.kn t4.ff ⟨⟨_, _, _, _, rfl⟩, g1.ex t4.ff, s4.fr _ _ g5' g2', (st3.ex e4).mono (by omega), vs, ss, e4 _ _ g5', g6.ex t4.ff, g7, by rw [hz]; exact g8, by omega⟩
      · rw [decide_eq_false h0, if_pos (by decide)]
        refine ⟨.ref p, rfl, Or.inl ⟨rfl, _, sq_of (e4 _ _ g5')⟩, ?_⟩
        refine wm_call (stepsD so) s4.kn (st3.ex e4) (by show n + i + 1 ≤ _; omega) rfl (pa_pk (d_var rfl (hva.ex s4.ff)) (by show so.map stepD ≠ []; simp [h0]) (by show (so.map stepD).length ≤ _; rw [List.length_map]; omega)) (mo_pk _) fun u F5 H5 s5 st5 ⟨d, hd, hu⟩ => ?_
        obtain ⟨s', hs', rfl⟩ := List.mem_map.mp (show d ∈ so.map stepD from hd)
        obtain ⟨q, hq, hcan, hdl⟩ := sm s' hs'
        have g5'' := em_at s5.hm (e4 _ _ g5') pl ps
        have g2'' := s5.fr _ _ (e4 _ _ g5') (s4.fr _ _ g5' g2')
        have fe := t4.ff.trans s5.ff
        obtain ⟨w1, w2⟩ := wy_snoc hq g7 (by rw [hz]; exact hcan) (by rw [hz]; omega)
        refine ⟨p, vs, u, rfl, rfl, g5'', sz_lt (by omega), hN _ F5 _ (s5.kn.upd_ g2'' hp1) fe ⟨⟨_, _, _, _, rfl⟩, g1.ex fe, g2'', st5.keep pl ps fun a o ne ha => by rw [upd_ne ne]; exact ha, vs ++ [u], ss ++ [s'], upd_same, ?_, w1, by rw [w2, hz]; exact hdl, by rw [List.length_append, List.length_singleton]; omega⟩⟩
        rw [List.map_append]
        exact (g6.ex fe).snoc hu
  · rintro σ' F' H' kn' eF ⟨⟨y6, y7, y8, y9, rfl⟩, g1, g2, g3, vs, ss, g5, g6, g7, g8, g9⟩
    rw [rngD_len, show ((many : Nat) : Int).toNat = many by omega] at g3 g9
    exact wp_ret ⟨.ref p, rfl, kM_done hQ (mo_ww _) (kn'.know g2 hp1 g5) (g3.mono (by show _ ≤ n + 100; omega)) ⟨ss, .lst upd_same (g6.ex (ex_know g2)), g7, g9⟩⟩
end
end K10
namespace K10
open PySem PySem.Spec PyProof.Rows L2 Evl WB
section
variable {P : Program} {w : World} {K : PySem.W.Frag} {mg : Str → Option Value} {base : Heap}
abbrev ASr : (WayM × Nat) → Hp → List V → Prop := fun x H vs => BkSm x.1.rs ∧ WyC x.1.rs x.1.z x.1.ss ∧ x.1.ss.length ≤ 60 ∧ x.2 ≤ 120 ∧ ∃ v t, vs = [v, .str x.1.z, t, .int (x.2 : Nat), .int (x.1.ss.length : Nat)] ∧ Dt H v (rulesD x.1.rs) ∧ Dt H t (stepsD x.1.ss)
abbrev RSr : (WayM × Nat) → Hp → V → Prop := fun x H v => ∃ ss : List WStep, Dt H v (stepsD ss) ∧ WyC x.1.rs x.1.z ss ∧ ss.length = x.1.ss.length
theorem mo_sr (x : WayM × Nat) : Mo (RSr x) := fun _ _ _ e ⟨ss, h1, h2⟩ => ⟨ss, h1.ex e, h2⟩
theorem wyc_q {rs : List Rule} : ∀ {z : Str} {ss : List WStep} {i : Nat} {s : WStep}, WyC rs z ss → ss[i]? = some s → ∃ q, rs[s.2.1]? = some q
  | _, [], _, _, _, h => by simp at h
  | z, t :: r, 0, s, ⟨q, h1, _, _⟩, h => by
    simp at h
    subst h
    exact ⟨q, h1⟩
  | z, t :: r, i + 1, s, ⟨q, _, _, h3⟩, h => wyc_q (i := i) h3 (by simpa using h)
theorem swap_map (ss : List WStep) (i : Nat) (p : WStep × WStep) : (swapAt ss i p).map stepD = (ss.map stepD).take i ++ [stepD p.1, stepD p.2] ++ (ss.map stepD).drop (i + 2) := by
  unfold swapAt
  rw [List.map_append, List.map_append, List.map_take, List.map_drop]
  rfl
/-- a Way made -/
theorem p_way {σ : L2.St} {F : Hp} {t1 t2 t3 : TE} {E : XK} (m : WayM) (ok : m.Ok) {d : PyData} (h1 : EvP t1 σ F (BookAt (CB K) m.rs)) (h2 : EvD t2 σ F (.str m.z)) (h3 : EvD t3 σ F d) (lo : LoSs d m.ss) : EvP (tMake (CW K) (spNew (CW K) (AWn K) (WayAt (CB K) (CW K))) [] E (tCons t1 (tCons t2 (tCons t3 tNil)))) σ F (Wy K m) :=
  p_make m (fun H1 e Q q => h1 H1 e _ fun b H2 e2 hb => h2 H2 (e.trans e2) _ fun z H3 e3 hz => h3 H3 ((e.trans e2).trans e3) _ fun t H4 e4 ht =>
    q [b, z, t] H4 ((e2.trans e3).trans e4) ⟨ok, b, z, t, d, rfl, BookAt.mo _ _ _ _ _ (nw_r (exexn (e3.trans e4))) hb, by cases hz.str_; exact .str _, ht.ex (nw_l e (exdm (e2.trans e3))), lo⟩) (WayAt.mo _ _ _)
theorem cl__law_w_stirred (S : Env P w K mg base) : Cl P w K mg base 4 "_law_w_stirred" ["stream", "rules", "word", "steps", "many", "most"] (SpM (fun _ => 240) ASr RSr) := mk_cl S.fun__law_w_stirred S.glo__law_w_stirred sc__law_w_stirred (fun _ _ _ _ _ _ us hl => match us, hl with | [_, _, _, _, _, _], _ => rfl) (m_len fun _ _ _ ⟨_, _, _, _, _, _, e, _⟩ => by rw [e]; rfl) fun cdv A outer s H vs Q E hr h => by
  have nd := sc__law_w_stirred.nd
  refine ⟨_, (pss_cons (ps_set (i := 3) nd rfl (by first | exact Or.inl rfl | exact Or.inr rfl) (pe_callTy (r := rListQ K) (T := "list") call_list_of (by rfl) S.free_list (by decide +kernel) (pa_cons (pv 3) pa_nil)))
    (pss_cons (ps_for (passes_of rfl) rfl (pi_range1 rfl S.free_range (pa_cons (pv 4) pa_nil)) (pg_name (i := 6) nd rfl (by first | exact Or.inl rfl | exact Or.inr rfl))
    (pss_cons (ps_par (i := 7) (j := 8) (by rfl) nd rfl rfl (by decide) rfl rfl (pa_cons (pe_cl (cl__law_draw S) hr (by decide) pass_none (by rfl) (pa_cons (pv 0) (pa_cons (pe_op op_add (pe_callB (r := rLenQ K) (id := "len") call_len_seq (by rfl) S.free_len (by decide +kernel) (pa_cons (pv 3) pa_nil)) pe_int) pa_nil))) (pa_cons (pe_cl (cl__law_draw S) hr (by decide) pass_none (by rfl) (pa_cons (pv 0) (pa_cons pe_int pa_nil))) pa_nil)) (by rfl))
    (pss_one (ps_if (PW.pt (pw_and (pt_cmpR op_eq (pv 8) pe_int (nomark _)) (pw_and1 (pt_cmpR op_le (pe_op op_add (pe_callB (r := rLenQ K) (id := "len") call_len_seq (by rfl) S.free_len (by decide +kernel) (pa_cons (pv 3) pa_nil)) pe_int) (pv 5) (nomark _))))) pss_dead (pss_one (ps_if (PW.pt (pw_and (pt_cmpR op_gt (pv 8) pe_int (nomark _)) (pw_and1 (pt_cmpR op_lt (pe_op op_add (pv 7) pe_int) (pe_callB (r := rLenQ K) (id := "len") call_len_seq (by rfl) S.free_len (by decide +kernel) (pa_cons (pv 3) pa_nil)) (nomark _))))) (pss_cons (ps_set (i := 11) nd rfl (by first | exact Or.inl rfl | exact Or.inr rfl) (pe_cl (cl__law_w_swapped S) hr (by decide) pass_none (by rfl) (pa_cons (pv 1) (pa_cons (pe_ix (r := rIxL K) ix_list (pv 3) (pv 7) (fun _ _ => rfl)) (pa_cons (pe_ix (r := rIxL K) ix_list (pv 3) (pe_op op_add (pv 7) pe_int) (fun _ _ => rfl)) pa_nil)))))
    (pss_one (ps_set (i := 3) nd rfl (by first | exact Or.inl rfl | exact Or.inr rfl) (pe_ifExp (pt_cmpR op_isN (pv 11) pe_non (nomark _)) (pv 3) (pe_op op_cat (pe_op op_cat (pe_slice (r := rSlL K) sl_list (pv 3) po_none (po_some (pv 7))) (pv 11)) (pe_slice (r := rSlL K) sl_list (pv 3) (po_some (pe_op op_add (pv 7) pe_int)) po_none)))))) pss_nil))))))
    (pss_one (ps_ret (pv 3))))), ?_⟩
  obtain ⟨F0, ⟨⟨rs, z, ss⟩, many⟩, l, s, n, r, rfl, e0, fl, fs, st, hn, ⟨ok, wc, hsl, hm, v, t, rfl, hv, ht⟩, hQ⟩ := h
  have hn : n + 240 ≤ 1000000 := hn
  have ok : BkSm rs := ok
  have wc : WyC rs z ss := wc
  have hsl : ss.length ≤ 60 := hsl
  have hm : many ≤ 120 := hm
  replace hv : Dt F0 v (rulesD rs) := hv
  replace ht : Dt F0 t (stepsD ss) := ht
  have kn := Kn.startS e0 fl fs st
  refine q_asg (d := stepsD ss) kn (d_listL (d_var rfl ht)) fun v1 F1 H1 s1 hv1 => ?_
  have st1 := st.ex s1.ex
  refine q_for s1.kn (wk_rng1 (n := ((many : Nat) : Int)) (da_cons (d_var rfl (.int _)) da_nil) ⟨by omega, by omega⟩) (fun i σ' F' H' => (∃ tv y6 y7 y8 y9 y10 y11, σ' = [some (.ref l), some v, some (.str z), some tv, some (.int (many : Nat)), some (.int (ss.length : Nat)), y6, y7, y8, y9, y10, y11] ∧ ∃ ss' : List WStep, Dt F' tv (stepsD ss') ∧ WyC rs z ss' ∧ ss'.length = ss.length) ∧ Dt F' v (rulesD rs) ∧ StA l s (n + 2 * i) H') ?_ ?_ ?_ ?_
  · intro F6 H6 s6
    exact ⟨⟨v1, _, _, _, _, _, _, rfl, ss, hv1.ex s6.ff, wc, rfl⟩, (hv.ex s1.ff).ex s6.ff, st1.ex s6.ex⟩
  · rintro i σ' F' H' H2 ⟨⟨tv, y6, y7, y8, y9, y10, y11, h1, ss', h2, h3⟩, g1, g2⟩ kn' e
    have s := kn'.step (H1 := H2) e
    exact ⟨⟨tv, y6, y7, y8, y9, y10, y11, h1, ss', h2.ex s.ff, h3⟩, g1.ex s.ff, g2.ex e⟩
  · rintro i d yy σ' F' H' hi kn' eF hd ⟨⟨tv, y6, y7, y8, y9, y10, y11, rfl, ss', h2, h3, h4⟩, g1, g2⟩ N hN
    have il : i < many := by
      have zz := (List.getElem?_eq_some_iff.mp hi).1
      rw [rngD_len] at zz
      omega
    refine wp_par (wp_cons ?_)
    refine wm_call (ss'.length + 1) kn' g2 (by show n + 2 * i + 1 ≤ _; omega) rfl (pa_dr ((d_add (d_lenL (d_var rfl h2)) d_int).is (by rw [List.length_map]; congr 1)) (by omega) (by omega)) (mo_dr _) fun u F2 H2 s2 st2 ⟨at_, hat, atl⟩ => ?_
    subst hat
    refine wp_cons (wm_call 4 s2.kn st2 (by show n + 2 * i + 1 + 1 ≤ _; omega) rfl (pa_dr d_int (by omega) (by omega)) (mo_dr _) fun u F3 H3 s3 st3 ⟨how, hhow, howl⟩ => ?_)
    subst hhow
    refine wp_nil ⟨_, _, rfl, ?_⟩
    have t3 := s2.trans s3
    have h2' := h2.ex t3.ff
    have g1' := g1.ex t3.ff
    have sl : ((ss'.map stepD).length : Int) = (ss.length : Nat) := by rw [List.length_map, h4]
    show tIfS _ _ _ _ _ H3
    refine k_ifF s3.kn (et_and (t_val (d_eq (d_var rfl (.int _)) d_int)) fun _ => t_val (d_cmp (d_add (d_lenL (d_var rfl h2')) d_int) (d_var rfl (.int _)))) ?_ fun F4 H4 s4 => ?_
    · rw [sl, decide_eq_false (show ¬ ((ss.length : Nat) : Int) + 2 ≤ ((ss.length : Nat) : Int) by omega), Bool.and_false]
    have h24 := h2'.ex s4.ff
    have g14 := g1'.ex s4.ff
    have st4 := st3.ex s4.ex
    have stay : ∀ F5 H5, StpE (Ms l s) F0 H F4 H4 F5 H5 → N [some (.ref l), some v, some (.str z), some tv, some (.int (many : Nat)), some (.int (ss.length : Nat)), some yy, some (.int (at_ : Nat)), some (.int (how : Nat)), y9, y10, y11] H5 := fun F5 H5 s5 => hN _ F5 H5 s5.kn ((t3.ff.trans s4.ff).trans s5.ff) ⟨⟨tv, _, _, _, _, _, _, rfl, ss', h24.ex s5.ff, h3, h4⟩, g14.ex s5.ff, (st4.ex s5.ex).mono (by show n + 2 * i + 1 + 1 ≤ _; omega)⟩
    refine k_if s4.kn (et_and (t_val (d_cmp (d_var rfl (.int _)) d_int)) fun _ => t_val (d_cmp (d_add (d_var rfl (.int _)) d_int) (d_lenL (d_var rfl h24)))) (fun hb F5 H5 s5 => ?_) fun _ F5 H5 s5 => stay F5 H5 s5
    obtain ⟨_, hb2⟩ := Bool.and_eq_true_iff.mp hb
    have hb2 := of_decide_eq_true hb2
    rw [sl] at hb2
    have hi2 : at_ + 1 < ss'.length := by omega
    have e1 : ss'[at_]? = some (ss'[at_]'(by omega)) := List.getElem?_eq_getElem _
    have e2 : ss'[at_ + 1]? = some ss'[at_ + 1] := List.getElem?_eq_getElem hi2
    generalize ss'[at_]'(by omega) = sa at e1
    generalize ss'[at_ + 1] = sb at e2
    obtain ⟨q1, f1⟩ := wyc_q h3 e1
    obtain ⟨q2, f2⟩ := wyc_q h3 e2
    have h25 := h24.ex s5.ff
    have g15 := g14.ex s5.ff
    refine q_asg (d := exchD (exch rs sa sb)) s5.kn (d_call (c := c_exch) (da_cons (d_var rfl g15) (da_cons (d_ixL (d_var rfl h25) (d_var rfl (.int _)) (atI_nat (by rw [List.getElem?_map, e1]; rfl))) (da_cons (d_ixL (d_var rfl h25) (d_add (d_var rfl (.int _)) d_int) (atI_nat (j := at_ + 1) (by rw [List.getElem?_map, e2]; rfl))) da_nil))) ⟨rs, sa, sb, q1, q2, rfl, f1, f2, ok.ok.at_ f1, ok.ok.at_ f2, rfl⟩) fun vb F6 H6 s6 hvb => ?_
    have h26 := h25.ex s6.ff
    have tt := (t3.ff.trans s4.ff).trans (s5.ff.trans s6.ff)
    cases hx : exch rs sa sb with
    | none =>
      rw [hx] at hvb
      refine k_asg (d := stepsD ss') s6.kn (d_if (b := true) (t_val (d_isN (d_var rfl hvb))) (fun _ => d_var rfl h26) fun z => nomatch z) fun v7 F7 H7 s7 hv7 => ?_
      exact hN _ F7 H7 s7.kn (tt.trans s7.ff) ⟨⟨v7, _, _, _, _, _, _, rfl, ss', hv7, h3, h4⟩, g15.ex (s6.ff.trans s7.ff), (((st4.ex s5.ex).ex s6.ex).ex s7.ex).mono (by show n + 2 * i + 1 + 1 ≤ _; omega)⟩
    | some p =>
      rw [hx] at hvb
      have hvb : Dt F6 vb (.list [stepD p.1, stepD p.2]) := hvb
      refine k_asg (d := stepsD (swapAt ss' at_ p)) s6.kn (d_if (b := false) (t_val (d_isN (d_var rfl hvb))) (fun z => nomatch z) fun _ => ((d_catL (d_catL (d_slL (d_var rfl h26) do_none (do_some (d_var rfl (.int _)))) (d_var rfl hvb) ?_) (d_slL (d_var rfl h26) (do_some (d_add (d_var rfl (.int _)) d_int)) do_none) ?_).is ?_)) fun v7 F7 H7 s7 hv7 => ?_
      · rw [cutD_lo, List.length_take, List.length_map]
        show min at_ ss'.length + 2 ≤ _
        exact sz_of (by omega)
      · rw [show ((at_ : Int) + 2) = ((at_ + 2 : Nat) : Int) by omega, cutD_lo, cutD_hi, List.length_append, List.length_take, List.length_drop, List.length_map]
        show min at_ ss'.length + 2 + (ss'.length - (at_ + 2)) ≤ _
        exact sz_of (by omega)
      · rw [show ((at_ : Int) + 2) = ((at_ + 2 : Nat) : Int) by omega, cutD_lo, cutD_hi]
        exact congrArg PyData.list (swap_map _ _ _).symm
      · obtain ⟨w1, _, _⟩ := swap_c ok.ok h3 e1 e2 hx
        exact hN _ F7 H7 s7.kn (tt.trans s7.ff) ⟨⟨v7, _, _, _, _, _, _, rfl, _, hv7, w1, by rw [swap_len hi2, h4]⟩, g15.ex (s6.ff.trans s7.ff), (((st4.ex s5.ex).ex s6.ex).ex s7.ex).mono (by show n + 2 * i + 1 + 1 ≤ _; omega)⟩
  · rintro σ' F' H' kn' eF ⟨⟨tv, y6, y7, y8, y9, y10, y11, rfl, ss', h2, h3, h4⟩, g1, g2⟩
    rw [rngD_len, show ((many : Nat) : Int).toNat = many by omega] at g2
    exact kM_fin (T := RSr (⟨rs, z, ss⟩, many)) hQ (mo_sr _) kn' (g2.mono (by show _ ≤ n + 240; omega)) (EvP.imp (EvD.toP (d_var rfl h2)) fun H v hv => ⟨ss', hv, h3, h4⟩)
/-- a drawn case -/
structure CaseB (m : WayM) : Prop where
  b : BkSm m.rs
  n : m.rs ≠ []
  w : isW m.z = true
  zl : m.z.length ≤ 30
  c : WyC m.rs m.z m.ss
  sl : m.ss.length ≤ 60
theorem CaseB.ok {m : WayM} (h : CaseB m) : m.Ok := ⟨h.b.ok, h.w, h.c.ok h.b (by have := h.zl; have := h.sl; omega), by have := h.sl; omega⟩
def mD (m : WayM) : List PyData := [rulesD m.rs, .str m.z, stepsD m.ss]
abbrev ACs : (Nat × Nat) → Hp → List V → Prop := fun x H vs => x.1 ≤ 60 ∧ x.2 ≤ 30 ∧ vs = [.int (x.1 : Nat), .int (x.2 : Nat)]
abbrev RCs : Hp → V → Prop := fun H v => ∃ m : WayM, CaseB m ∧ Dt H v (.tuple (mD m))
theorem mo_cs : Mo RCs := fun _ _ _ e ⟨m, h1, h2⟩ => ⟨m, h1, h2.ex e⟩
theorem cl__law_b_case (S : Env P w K mg base) : Cl P w K mg base 5 "_law_b_case" ["stream", "many", "size"] (SpM (fun _ => 470) ACs (fun _ => RCs)) := mk_cl S.fun__law_b_case S.glo__law_b_case sc__law_b_case (fun _ _ _ _ _ _ us hl => match us, hl with | [_, _, _], _ => rfl) (m_len fun _ _ _ ⟨_, _, e⟩ => by rw [e]; rfl) fun cdv A outer s H vs Q E hr h => by
  have nd := sc__law_b_case.nd
  refine ⟨_, (pss_cons (ps_set (i := 3) nd rfl (by first | exact Or.inl rfl | exact Or.inr rfl) (pe_cl (cl__law_w_book S) hr (by decide) pass_none (by rfl) (pa_cons (pv 0) pa_nil)))
    (pss_cons (ps_set (i := 4) nd rfl (by first | exact Or.inl rfl | exact Or.inr rfl) (pe_slice (r := rSlS) sl_str (pe_cl (cl__law_w_word S) hr (by decide) pass_none (by rfl) (pa_cons (pv 0) (pa_cons (pv 3) (pa_cons (pe_op op_add pe_int (pe_cl (cl__law_draw S) hr (by decide) pass_none (by rfl) (pa_cons (pv 0) (pa_cons (pe_ifExp (pt_cmpR op_lt (pv 2) pe_int (nomark _)) pe_int pe_int) pa_nil)))) pa_nil)))) po_none (po_some (pv 2))))
    (pss_cons (ps_set (i := 5) nd rfl (by first | exact Or.inl rfl | exact Or.inr rfl) (pe_cl (cl__law_w_way S) hr (by decide) pass_none (by rfl) (pa_cons (pv 0) (pa_cons (pv 3) (pa_cons (pv 4) (pa_cons (pe_cl (cl__law_draw S) hr (by decide) pass_none (by rfl) (pa_cons (pv 0) (pa_cons (pe_op op_add (pv 1) pe_int) pa_nil))) (pa_cons (pe_op op_add (pv 2) pe_int) pa_nil)))))))
    (pss_one (ps_ret (pe_tup (pa_cons (pv 3) (pa_cons (pv 4) (pa_cons (pe_cl (cl__law_w_stirred S) hr (by decide) pass_none (by rfl) (pa_cons (pv 0) (pa_cons (pv 3) (pa_cons (pv 4) (pa_cons (pv 5) (pa_cons (pe_op op_mul pe_int (pv 1)) (pa_cons (pe_callB (r := rLenQ K) (id := "len") call_len_seq (by rfl) S.free_len (by decide +kernel) (pa_cons (pv 5) pa_nil)) pa_nil))))))) pa_nil))))))))), ?_⟩
  obtain ⟨F0, ⟨many, size⟩, l, s, n, r, rfl, e0, fl, fs, st, hn, ⟨h1, h2, rfl⟩, hQ⟩ := h
  have hn : n + 470 ≤ 1000000 := hn
  have h1 : many ≤ 60 := h1
  have h2 : size ≤ 30 := h2
  have kn := Kn.startS e0 fl fs st
  refine wp_asg ?_
  refine wm_call () kn st (by show n + 60 ≤ _; omega) rfl (fun H1 _ Q q => q [] H1 (Ex.refl _) rfl) mo_bn fun rv F1 H1 s1 st1 ⟨rs, hrv, ok, rn⟩ => ?_
  refine wp_asg (wp_sl ?_)
  refine wp_cons ⟨_, rfl, ?_⟩
  refine wp_cons ⟨_, rfl, ?_⟩
  have cap : ∃ c : Nat, 1 ≤ c ∧ c ≤ 20 ∧ (if ((size : Nat) : Int) < 13 then (4 : Int) else 20) = (c : Nat) := by
    by_cases q : ((size : Nat) : Int) < 13
    · exact ⟨4, by omega, by omega, by rw [if_pos q]; rfl⟩
    · exact ⟨20, by omega, by omega, by rw [if_neg q]; rfl⟩
  obtain ⟨c, c1, c2, hc⟩ := cap
  refine wp_cons (wp_op (wp_c (wm_call c s1.kn st1 (by show n + 60 + 1 ≤ _; omega) rfl (pa_dr ((d_if (d := .int (if ((size : Nat) : Int) < 13 then (4 : Int) else 20)) (t_val (d_cmp (d_var rfl (.int _)) d_int)) (fun e => d_int.is ?_) fun e => d_int.is ?_).is (by rw [hc])) c1 (by omega)) (mo_dr _) fun u F2 H2 s2 st2 ⟨d, hd, dl⟩ => ?_)))
  · rw [if_pos (of_decide_eq_true e)]
  · rw [if_neg (of_decide_eq_false e)]
  subst hd
  refine ⟨1, d, rfl, rfl, ?_⟩
  refine wp_nil ?_
  show SpM (fun _ => 60) AWd RWd [.ref l, rv, .int (1 + (d : Nat))] H2 _ _
  have t2 := s1.trans s2
  refine ⟨F2, (rs, d + 1), l, s, n + 60 + 1, [rv, .int (1 + (d : Nat))], rfl, s2.kn.fh, s2.kn.md l (.inl rfl), s2.kn.md s (.inr rfl), st2, by show n + 60 + 1 + 60 ≤ _; omega, ⟨ok, rn, by show d + 1 ≤ 30; omega, rv, by rw [show ((1 : Int) + ((d : Nat) : Int)) = ((d + 1 : Nat) : Int) by omega], hrv.ex s2.ff⟩, fun v H3 e3 st3 ⟨z, hz, zw, zl⟩ => ?_⟩
  subst hz
  replace zl : z.length ≤ 8 * (d + 1) := zl
  have s3 := s2.kn.stepM e3
  have t3 := t2.trans s3
  refine wp_nopart (wp_part ⟨_, rfl, _, rfl, ?_⟩)
  refine ⟨z, rfl, szS (by omega), ?_⟩
  have wl : (cutS z none (some ((size : Nat) : Int))).length ≤ size := by rw [cutS_lo]; exact Nat.min_le_left _ _
  have ww : isW (cutS z none (some ((size : Nat) : Int))) = true := isW_cut zw _ _
  generalize cutS z none (some ((size : Nat) : Int)) = wd at wl ww ⊢
  have hrv3 := hrv.ex (s2.ff.trans s3.ff)
  replace st3 : StA l s (n + 121) H3 := st3.mono (by show n + 60 + 1 + 60 ≤ _; omega)
  refine wp_asg ?_
  refine wp_cons ⟨_, rfl, ?_⟩
  refine wp_cons ⟨_, rfl, ?_⟩
  refine wp_cons ⟨_, rfl, ?_⟩
  refine wp_cons (wm_call (many + 1) t3.kn st3 (by show n + 121 + 1 ≤ _; omega) rfl (pa_dr ((d_add (d_var rfl (.int _)) d_int).is (by congr 1)) (by omega) (by omega)) (mo_dr _) fun u F4 H4 s4 st4 ⟨d4, hd4, dl4⟩ => ?_)
  subst hd4
  refine wp_cons (wp_op ⟨_, rfl, wp_c ⟨_, _, rfl, rfl, ?_⟩⟩)
  refine wp_nil ?_
  show SpM (fun _ => 100) AWw RWw [.ref l, rv, .str wd, .int (d4 : Nat), .int ((size : Nat) + 2)] H4 _ _
  refine ⟨F4, ⟨rs, wd, d4, size + 2⟩, l, s, n + 121 + 1, _, rfl, s4.kn.fh, s4.kn.md l (.inl rfl), s4.kn.md s (.inr rfl), st4, by show n + 121 + 1 + 100 ≤ _; omega, ⟨ok, ww, by show wd.length ≤ size + 2; omega, by show size + 2 ≤ 1000; omega, by show d4 ≤ 100; omega, rv, by rw [show (((size : Nat) : Int) + 2) = ((size + 2 : Nat) : Int) by omega], hrv3.ex s4.ff⟩, fun v5 H5 e5 st5 ⟨ss, hv5, wok, sl⟩ => ?_⟩
  have s5 := s4.kn.stepM e5
  replace sl : ss.length ≤ d4 := sl
  replace wok : WyOk rs wd ss := wok
  replace st5 : StA l s (n + 222) H5 := st5.mono (by show n + 121 + 1 + 100 ≤ _; omega)
  have hrv5 := hrv3.ex (s4.ff.trans s5.ff)
  refine wp_ret (wp_tup (wp_cons ⟨_, rfl, wp_cons ⟨_, rfl, wp_cons ?_⟩⟩))
  refine wm_call (⟨rs, wd, ss⟩, 2 * many) s5.kn st5 (by show n + 222 + 240 ≤ _; omega) rfl (fun H6 e6 Q6 q6 => ?_) (mo_sr _) fun v7 F7 H7 s7 st7 ⟨ss', hv7, wc', sl'⟩ => ?_
  · refine da_cons (d_var rfl hrv5) (da_cons (d := .str wd) (d_var rfl (.str _)) (da_cons (d_var rfl hv5) (da_cons (d := .int ((2 * many : Nat) : Int)) ((d_opI (C := CMul) (g := fun i j => i * j) d_int (d_var rfl (.int _)) (.inl ⟨by decide, by decide⟩)).is (by congr 1)) (da_cons (d := .int ((ss.length : Nat) : Int)) ((d_lenL (d_var rfl hv5)).is (by rw [List.length_map])) da_nil)))) H6 e6 _ fun xs H8 e8 hx => ?_
    obtain ⟨x1, r1, rfl, y1, hx⟩ := hx.cons_
    obtain ⟨x2, r2, rfl, y2, hx⟩ := hx.cons_
    obtain ⟨x3, x4, x5, rfl, y3, y4, y5⟩ := da3_ hx
    cases y2.str_
    cases y4.int_
    cases y5.int_
    exact q6 _ H8 e8 ⟨ok, wok.c, by show ss.length ≤ 60; omega, by show 2 * many ≤ 120; omega, x1, x3, rfl, y1, y3⟩
  · replace st7 : StA l s (n + 470) H7 := st7.mono (by show n + 222 + 240 ≤ _; omega)
    refine wp_nil ⟨by show 3 ≤ sizeLine; decide, fun p hp => ?_⟩
    replace sl' : ss'.length = ss.length := sl'
    refine kM_done hQ mo_cs (kn_new (o := .tup [rv, .str wd, v7]) s7.kn hp) (st7.ex (Ex.new hp)) ⟨⟨rs, wd, ss'⟩, ⟨ok, rn, ww, by show wd.length ≤ 30; omega, wc', by show ss'.length ≤ 60; omega⟩, .tup upd_same (.cons ((hrv5.ex s7.ff).ex (know_ex s7.kn hp)) (.cons (.str _) (.cons (hv7.ex (know_ex s7.kn hp)) .nil)))⟩
end
end K10
namespace K10
open PySem PySem.Spec PyProof.Rows L2 Evl WB
section
variable {P : Program} {w : World} {K : PySem.W.Frag} {mg : Str → Option Value} {base : Heap}
/-- no list, no tuple, no dict -/
def isSc : PyData → Bool
  | .list _ => false
  | .tuple _ => false
  | .dict _ => false
  | _ => true
/-- rows of rows, at most n deep -/
def lokD : Nat → PyData → Prop
  | 0, _ => False
  | n + 1, .list ds => ds.length ≤ 30000 ∧ ∀ d ∈ ds, lokD n d
  | n + 1, .tuple ds => ds.length ≤ 30000 ∧ ∀ d ∈ ds, lokD n d
  | _ + 1, d => isSc d = true
theorem lok_sc {d : PyData} (h : isSc d = true) (n : Nat) : lokD (n + 1) d := by cases d <;> first | (cases h; done) | exact h
theorem lok_row {n : Nat} {k : Bool} {ds : List PyData} (h1 : ds.length ≤ 30000) (h2 : ∀ d ∈ ds, lokD n d) : lokD (n + 1) (rwD k ds) := by
  cases k <;> exact ⟨h1, h2⟩
theorem lok_cases {n : Nat} {d : PyData} (h : lokD n d) : isSc d = true ∨ ∃ m k ds, n = m + 1 ∧ d = rwD k ds ∧ ds.length ≤ 30000 ∧ ∀ d ∈ ds, lokD m d := by
  cases n with
  | zero => exact h.elim
  | succ n =>
    cases d with
    | list ds => exact .inr ⟨n, true, ds, rfl, rfl, h.1, h.2⟩
    | tuple ds => exact .inr ⟨n, false, ds, rfl, rfl, h.1, h.2⟩
    | dict _ => exact .inl h
    | _ => exact .inl rfl
theorem lok_rules {rs : List Rule} (h : rs.length ≤ 1000) : lokD 3 (rulesD rs) := lok_row (k := true) (by rw [List.length_map]; omega) fun d hd => by
  obtain ⟨r, _, rfl⟩ := List.mem_map.mp hd
  refine lok_row (k := false) (by show 2 ≤ _; decide) fun d hd => ?_
  simp only [List.mem_cons, List.not_mem_nil, or_false] at hd
  rcases hd with rfl | rfl <;> rfl
theorem lok_steps {ss : List WStep} (h : ss.length ≤ 1000) : lokD 3 (stepsD ss) := lok_row (k := true) (by rw [List.length_map]; omega) fun d hd => by
  obtain ⟨r, _, rfl⟩ := List.mem_map.mp hd
  refine lok_row (k := false) (by show 3 ≤ _; decide) fun d hd => ?_
  simp only [List.mem_cons, List.not_mem_nil, or_false] at hd
  rcases hd with rfl | rfl | rfl <;> rfl
theorem cntDs_le : ∀ (ds : List PyData) (c : Nat), (∀ d ∈ ds, cntD d ≤ c) → cntDs ds ≤ c * ds.length
  | [], _, _ => Nat.zero_le _
  | d :: ds, c, h => by
    have h1 := h d (List.mem_cons_self ..)
    have h2 := cntDs_le ds c fun e he => h e (List.mem_cons_of_mem _ he)
    simp only [cntDs, List.length_cons, Nat.mul_succ]
    omega
theorem cnt_rules (rs : List Rule) : cntD (rulesD rs) ≤ rs.length + 1 := by
  have h := cntDs_le (rs.map ruleD) 1 fun d hd => by
    obtain ⟨r, _, rfl⟩ := List.mem_map.mp hd
    simp [ruleD, cntD, cntDs]
  rw [List.length_map] at h
  simp only [rulesD, cntD]
  omega
theorem cnt_steps (ss : List WStep) : cntD (stepsD ss) ≤ ss.length + 1 := by
  have h := cntDs_le (ss.map stepD) 1 fun d hd => by
    obtain ⟨r, _, rfl⟩ := List.mem_map.mp hd
    simp [stepD, cntD, cntDs]
  rw [List.length_map] at h
  simp only [stepsD, cntD]
  omega
theorem cnt_row (k : Bool) (ds : List PyData) : cntD (rwD k ds) = cntDs ds + 1 := by
  cases k <;> simp [rwD, cntD]
theorem nodict_kit {d : PyData} (h : ∀ kvs, d ≠ .dict kvs) : PySem.W.kitOne K (tyD d) (.type "dict") = some false := by
  cases d with
  | dict kvs => exact absurd rfl (h kvs)
  | none => exact kit_ty (r := false) (by decide +kernel)
  | bool _ => exact kit_ty (r := false) (by decide +kernel)
  | int _ => exact kit_ty (r := false) (by decide +kernel)
  | str _ => exact kit_ty (r := false) (by decide +kernel)
  | list _ => exact kit_ty (r := false) (by decide +kernel)
  | tuple _ => exact kit_ty (r := false) (by decide +kernel)
abbrev ALo (n : Nat) : PyData → Hp → List V → Prop := fun d H vs => lokD n d ∧ ∃ v, vs = [v] ∧ Dt H v d
abbrev RLo : PyData → Hp → V → Prop := fun d H v => ∃ e, Dt H v e ∧ Lo d e
theorem mo_lo (d : PyData) : Mo (RLo d) := fun _ _ _ x ⟨e, h1, h2⟩ => ⟨e, h1.ex x, h2⟩
def SpLo (n : Nat) : Sp := SpM cntD (ALo n) RLo
theorem SpLo_len {n : Nat} (vs : List V) (H : Hp) (Q : VK) (E : XK) (h : SpLo n vs H Q E) : vs.length = 2 := m_len (n := 1) (fun _ _ _ ⟨_, _, e, _⟩ => by rw [e]; rfl) vs H Q E h
theorem sc_is {d : PyData} (h : isSc d = true) : isIns d = false ∧ isRow d = false ∧ (∀ kvs, d ≠ .dict kvs) ∧ (∀ ds, d ≠ .list ds) ∧ (∀ ds, d ≠ .tuple ds) := by
  cases d <;> first | (cases h; done) | exact ⟨rfl, rfl, fun _ z => (nomatch z), fun _ z => (nomatch z), fun _ z => (nomatch z)⟩
theorem pa_lo {σ : L2.St} {F : Hp} {te : TE} {n : Nat} {d : PyData} (h : EvD te σ F d) (hl : lokD n d) : EvPA (tCons te tNil) σ F (ALo n d) := fun H1 e _ q =>
  h H1 e _ fun v H2 e2 hv => q [v] H2 e2 ⟨hl, v, rfl, hv⟩
theorem st__law_loose (S : Env P w K mg base) (n : Nat) (ih : Cl P w K mg base (n + 1) "_law_loose" ["stream", "thing"] ((SpLo) n)) : Cl P w K mg base (n + 2) "_law_loose" ["stream", "thing"] ((SpLo) (n + 1)) := mk_cl S.fun__law_loose S.glo__law_loose sc__law_loose (fun _ _ _ _ _ _ us hl => match us, hl with | [_, _], _ => rfl) (SpLo_len) fun cdv A outer s H vs Q E hr h => by
  have nd := sc__law_loose.nd
  refine ⟨_, (pss_cons (ps_if (pt_val (pe_callB (r := rIsi K) (id := "isinstance") call_isi (by rfl) S.free_isinstance (by decide +kernel) (pa_cons (pv 1) (pa_cons (pe_bltn (v := V.ty "dict") (by rfl) S.free_dict (by decide +kernel) rfl) pa_nil)))) pss_dead pss_nil)
    (pss_cons (ps_if (pt_not (pt_val (pe_callB (r := rIsiT K) (id := "isinstance") call_isiT (by rfl) S.free_isinstance (by decide +kernel) (pa_cons (pv 1) (pa_cons (pe_tup (pa_cons (pe_bltn (v := V.ty "list") (by rfl) S.free_list (by decide +kernel) rfl) (pa_cons (pe_bltn (v := V.ty "tuple") (by rfl) S.free_tuple (by decide +kernel) rfl) pa_nil))) pa_nil))))) (pss_one (ps_ret (pv 1))) pss_nil)
    (pss_cons (ps_setLc (i := 4) (own := [("part", 3)]) rfl nd rfl rfl (sw_true rfl rfl rfl (by decide +kernel)) (pi_anyK (K := K) rfl (pv 1)) (blkOk_by (N := ["stream", "thing", "key", "part", "found"]) (sc := defScope s__law_loose) (by decide +kernel)) (fun _ _ _ _ _ => (pg_name (i := 3) nd rfl (by first | exact Or.inl rfl | exact Or.inr rfl))) (fun _ _ _ _ _ => pts_nil) (fun _ _ _ _ _ => (pe_cl ih hr (Nat.le_refl _) pass_none (by rfl) (pa_cons (pv 0) (pa_cons (pv 3) pa_nil)))))
    (pss_one (ps_ret (pe_ifExp (pt_cmpR op_eq (pe_cl (cl__law_draw S) hr (by omega) pass_none (by rfl) (pa_cons (pv 0) (pa_cons pe_int pa_nil))) pe_int (nomark _)) (pv 4) (pe_callTy (r := rTupQ K) (T := "tuple") call_tuple_of (by rfl) S.free_tuple (by decide +kernel) (pa_cons (pv 4) pa_nil)))))))), ?_⟩
  obtain ⟨F0, d, l, s, m, r, rfl, e0, fl, fs, st, hn, ⟨lok, v, rfl, hv⟩, hQ⟩ := h
  have kn := Kn.startS e0 fl fs st
  rcases lok_cases lok with sc | ⟨n', k, ds, hnn, rfl, dl, hds⟩
  · obtain ⟨i1, i2, i3, i4, i5⟩ := sc_is sc
    refine q_ifF kn (t_B (d_isi (d_var rfl hv) (ty_of i1) (nodict_kit i3))) rfl fun F1 H1 s1 => ?_
    have hv1 := hv.ex s1.ff
    refine q_ifT s1.kn (et_not (t_B (d_isiT2 (d_var rfl hv1) (ty_of i1) (row_kit d i1)))) (by rw [i2]; rfl) fun F2 H2 s2 => ?_
    exact kM_fin (T := RLo d) hQ (mo_lo d) s2.kn (((st.ex s1.ex).ex s2.ex).mono (Nat.le_add_right _ _)) (EvP.imp (EvD.toP (d_var rfl (hv1.ex s2.ff))) fun H v hv => ⟨d, hv, .sc i4 i5⟩)
  · cases hnn
    obtain ⟨r1, r2⟩ := row_is k ds
    have nd' : ∀ kvs, rwD k ds ≠ .dict kvs := fun kvs z => by cases k <;> cases z
    refine q_ifF kn (t_B (d_isi (d_var rfl hv) (ty_of r2) (nodict_kit nd'))) rfl fun F1 H1 s1 => ?_
    have hv1 := hv.ex s1.ff
    refine q_ifF s1.kn (et_not (t_B (d_isiT2 (d_var rfl hv1) (ty_of r2) (row_kit _ r2)))) (by rw [r1]; rfl) fun F2 H2 s2 => ?_
    have hv2 := hv1.ex s2.ff
    have st2 := (st.ex s1.ex).ex s2.ex
    have hn : m + (cntDs ds + 1) ≤ 1000000 := by rw [← cnt_row k ds]; exact hn
    refine wp_asg (w_lcRow (M2 := Ms l s) s2.kn (d_var rfl hv2) (by omega) (fun i acc F' H' => StA l s (m + cntDs (ds.take i)) H' ∧ ∃ es, LoAll (ds.take i) es ∧ DtAll F' acc es) st2.has (fun F3 H3 s3 => ⟨st2.ex s3.ex, [], .nil, .nil⟩) ?_ ?_ ?_ (fun _ => rfl))
    · rintro i acc F' H' H'' ⟨g1, g2⟩ hh
      exact ⟨g1.at_ (hh l (st2.has l (.inl rfl))) (hh s (st2.has s (.inr rfl))), g2⟩
    · rintro i acc F' H' d' x hd hx al kn' eF ⟨g1, es, g2, g3⟩ Q' hQ'
      obtain ⟨c1, c2⟩ := cntDs_take ds i hd
      refine wm_call d' kn' g1 (by omega) rfl (pa_lo (d_var rfl hx) (hds d' (List.mem_of_getElem? hd))) (mo_lo d') fun u F4 H4 s4 st4 ⟨e, he, hlo⟩ => ?_
      refine hQ' u F4 H4 s4.kn s4.ff s4.hm s4.fr ⟨?_, es ++ [e], ?_, (g3.ex s4.ff).snoc he⟩
      · rw [c2]
        exact st4.mono (by omega)
      · rw [take_snoc hd]
        exact g2.snoc hlo
    · rintro D acc F' H' kn' eF em frr al ⟨g1, es, g2, g3⟩ hD hF hH
      rw [List.take_length] at g1 g2
      have k4 := kn'.know hF hH hD
      have dD : Dt (upd F' D (.lst acc)) (.ref D) (.list es) := .lst upd_same (g3.ex (ex_know hF))
      generalize upd F' D (.lst acc) = F4 at k4 dD
      refine wp_ret (wp_ifX (wp_test (wp_op (wm_call 3 k4 g1 (by show _ + 1 ≤ _; omega) rfl (pa_dr d_int (by omega) (by omega)) (mo_dr _) fun u F5 H5 s5 st5 ⟨d5, hd5, dl5⟩ => ?_))))
      subst hd5
      refine wp_c ⟨rfl, _, rfl, ?_⟩
      have st6 : StA l s (m + cntD (rwD k ds)) H5 := by rw [cnt_row]; exact st5.mono (by show _ + 1 ≤ _; omega)
      have d5' := dD.ex s5.ff
      by_cases zz : V.int (d5 : Nat) = V.int 0
      · rw [decide_eq_true zz, if_pos rfl]
        exact ⟨_, rfl, kM_done hQ (mo_lo _) s5.kn st6 ⟨_, d5', .row k true g2⟩⟩
      · rw [decide_eq_false zz, if_neg (by decide)]
        exact k_ev s5.kn (d_tupL (d_var rfl d5')) _ fun u F6 H6 s6 hu => kM_done hQ (mo_lo _) s6.kn (st6.ex s6.ex) ⟨_, hu, .row k false g2⟩
theorem cl__law_loose (S : Env P w K mg base) : ∀ n, Cl P w K mg base (n + 1) "_law_loose" ["stream", "thing"] (SpLo n)
  | 0 => mk_cl S.fun__law_loose S.glo__law_loose sc__law_loose (fun _ _ _ _ _ _ us hl => match us, hl with | [_, _], _ => rfl) SpLo_len fun cdv A outer s H vs Q E hr h => by
    obtain ⟨_, _, _, _, _, _, _, _, _, _, _, _, ⟨z, _⟩, _⟩ := h
    exact z.elim
  | n + 1 => st__law_loose S n (cl__law_loose S n)
theorem cl4_loose (S : Env P w K mg base) : Cl P w K mg base 4 "_law_loose" ["stream", "thing"] (SpLo 3) := cl__law_loose S 3
end
end K10
namespace K10
open PySem PySem.Spec PyProof.Rows L2 Evl WB
section
variable {P : Program} {w : World} {K : PySem.W.Frag} {mg : Str → Option Value} {base : Heap}
section
variable {σ : L2.St} {F : Hp} {ta tb : TE} {i j : Nat}
theorem bitAnd_nat (i j : Nat) : Builtin.bitAnd (i : Int) (j : Int) = ((i &&& j : Nat) : Int) := by
  unfold Builtin.bitAnd
  rfl
theorem bitOr_nat (i j : Nat) : Builtin.bitOr (i : Int) (j : Int) = ((i ||| j : Nat) : Int) := by
  unfold Builtin.bitOr Builtin.bitAnd
  have e : ∀ k : Nat, Builtin.bitNot (k : Int) = -(k : Int) - 1 := fun k => rfl
  have n1 : decide (0 ≤ Builtin.bitNot (i : Int)) = false := decide_eq_false (by rw [e]; omega)
  have n2 : decide (0 ≤ Builtin.bitNot (j : Int)) = false := decide_eq_false (by rw [e]; omega)
  have d : ∀ k : Int, Builtin.bitNot (Builtin.bitNot k) = k := fun k => by
    show -(-k - 1) - 1 = k
    omega
  rw [n1, n2]
  show Builtin.bitNot (Builtin.bitNot (((Builtin.bitNot (Builtin.bitNot (i : Int))).toNat ||| (Builtin.bitNot (Builtin.bitNot (j : Int))).toNat : Nat) : Int)) = _
  rw [d, d, d, Int.toNat_natCast, Int.toNat_natCast]
theorem d_shr (ha : EvD ta σ F (.int (i : Int))) (hb : EvD tb σ F (.int (j : Int))) : EvD (tOp (rI (fun _ j => 0 ≤ j) fun i j => .int (i / 2 ^ j.toNat)) ta tb) σ F (.int ((i >>> j : Nat) : Int)) := (d_opI (g := fun i j => i / 2 ^ j.toNat) ha hb (by omega)).is (by
  congr 1
  rw [Nat.shiftRight_eq_div_pow]
  show (i : Int) / 2 ^ ((j : Int)).toNat = _
  rw [Int.toNat_natCast]
  norm_cast)
theorem d_shl1 (ha : EvD ta σ F (.int 1)) (hb : EvD tb σ F (.int (j : Int))) (hj : j ≤ 1000000) : EvD (tOp (rI CPow fun i j => .int (i * 2 ^ j.toNat)) ta tb) σ F (.int ((1 <<< j : Nat) : Int)) := (d_opI (g := fun i j => i * 2 ^ j.toNat) ha hb ⟨by omega, by omega, by decide⟩).is (by
  congr 1
  rw [Nat.one_shiftLeft]
  show (1 : Int) * 2 ^ ((j : Int)).toNat = _
  rw [Int.toNat_natCast, Int.one_mul]
  norm_cast)
theorem d_andI (ha : EvD ta σ F (.int (i : Int))) (hb : EvD tb σ F (.int (j : Int))) : EvD (tOp (rI0 fun i j => .int (Builtin.bitAnd i j)) ta tb) σ F (.int ((i &&& j : Nat) : Int)) :=
  d_op ha hb (opS (z := .int ((i &&& j : Nat) : Int)) rfl fun H1 x y hx hy Q q => ⟨i, j, hx.int_, hy.int_, by show Q (.int (Builtin.bitAnd (i : Int) (j : Int))) H1; rw [bitAnd_nat]; exact q⟩)
theorem d_orI (ha : EvD ta σ F (.int (i : Int))) (hb : EvD tb σ F (.int (j : Int))) : EvD (tOp (rI0 fun i j => .int (Builtin.bitOr i j)) ta tb) σ F (.int ((i ||| j : Nat) : Int)) :=
  d_op ha hb (opS (z := .int ((i ||| j : Nat) : Int)) rfl fun H1 x y hx hy Q q => ⟨i, j, hx.int_, hy.int_, by show Q (.int (Builtin.bitOr (i : Int) (j : Int))) H1; rw [bitOr_nat]; exact q⟩)
theorem t_truI (ha : EvD ta σ F (.int (i : Int))) : EvT (tTru K ta) σ F (decide (i ≠ 0)) := fun H1 e Q q => ha H1 e _ fun x H2 e2 hx => by
  cases hx.int_
  refine ⟨decide (i ≠ 0), ?_, q H2 e2⟩
  show decide (i ≠ 0) = ((i : Int) != 0)
  by_cases h : i = 0
  · subst h; rfl
  · rw [decide_eq_true h]
    symm
    simpa using h
end
theorem bit_and (lot i : Nat) : decide ((lot >>> i) &&& 1 ≠ 0) = lot.testBit i := by
  unfold Nat.testBit
  rw [Nat.and_comm]
  by_cases h : 1 &&& lot >>> i = 0
  · rw [h]; rfl
  · rw [decide_eq_true h]
    symm
    simpa using h
abbrev ASi : (Nat × Nat) → Hp → List V → Prop := fun x _ vs => x.2 ≤ 1000 ∧ vs = [.int (x.1 : Nat), .int (x.2 : Nat)]
def bitsL (lot n : Nat) : List Nat := (List.range n).filter fun i => lot.testBit i
theorem cl_steps_in (S : Env P w K mg base) : Cl P w K mg base 1 "steps_in" ["lot", "many"] (SpR ASi fun x => natsD (bitsL x.1 x.2)) := mk_cl S.fun_steps_in S.glo_steps_in sc_steps_in (fun _ _ _ _ _ _ us hl => match us, hl with | [_, _], _ => rfl) (r_len fun _ _ _ ⟨_, e⟩ => by rw [e]; rfl) fun cdv A outer s H vs Q E hr h => by
  have nd := sc_steps_in.nd
  refine ⟨_, (pss_one (ps_ret (pe_lc (own := [("index", 2)]) rfl nd (pi_range1 rfl S.free_range (pa_cons (pv 1) pa_nil)) (blkOk_by (N := ["lot", "many", "index"]) (sc := defScope s_steps_in) (by decide +kernel)) (fun _ _ _ _ _ => (pg_name (i := 2) nd rfl (by first | exact Or.inl rfl | exact Or.inr rfl))) (fun _ _ _ _ _ => pts_one (pt_tru (K := K) rfl (pe_op op_and (pe_op op_shr (pv 0) (pv 2)) pe_int) (fun _ => rfl))) (fun _ _ _ _ _ => (pv 2))))), ?_⟩
  obtain ⟨F0, ⟨lot, n⟩, e0, ⟨hn, rfl⟩, hQ⟩ := h
  have hn : n ≤ 1000 := hn
  refine kr_fin hQ (Kn.start e0) ((er_flat (b := fun i => lot.testBit i) (r := fun i => i) (wk_rng1 (n := ((n : Nat) : Int)) (da_cons (d_var rfl (.int _)) da_nil) ⟨by omega, by omega⟩) (by rw [rngD_len]; omega) fun i d x F' H' hi e1 e2 hd Q hQ' => ?_).is ?_)
  · have il := (List.getElem?_eq_some_iff.mp hi).1
    rw [rngD_len] at il
    rw [rngD_get il, Int.zero_add] at hi
    cases hi
    cases hd.int_
    refine hQ' _ rfl ?_ fun _ => ev_var rfl
    have z := t_truI (K := K) (d_andI (j := 1) (d_shr (i := lot) (j := i) (σ := [some (V.int ((lot : Nat) : Int)), some (V.int ((n : Nat) : Int)), some (V.int ((i : Nat) : Int))]) (F := F') (d_var (i := 0) rfl (.int _)) (d_var (i := 2) rfl (.int _))) d_int)
    rw [bit_and] at z
    exact z
  · rw [rngD_len]
    unfold bitsL
    rw [List.map_id'']
    · congr 2
    · exact fun _ => rfl
end
end K10
namespace K10
open PySem PySem.Spec PyProof.Rows L2 Evl WB
section
variable {P : Program} {w : World} {K : PySem.W.Frag} {mg : Str → Option Value} {base : Heap}
section
variable {σ : L2.St} {F : Hp} {ta tb : TE}
theorem d_dgetI {p : Addr} {kvs : List (Key × V)} {k i : Int} (ha : Ev ta σ F (.ref p)) (hk : EvD tb σ F (.int k)) (hF : F p = some (.dK kvs)) (hv : valV kvs (.inl k) = some (.int i)) : EvD (tDGet ta tb) σ F (.int i) := fun H1 e Q q =>
  ha H1 e _ fun H2 e2 => hk H2 (e.trans e2) _ fun u H3 e3 hu => ⟨p, .int i, rfl, .inl ⟨kvs, .inl k, .inl (((e.trans e2).trans e3) _ _ hF), hu.int_, hv.symm⟩, q _ H3 (e2.trans e3) (.int i)⟩
end
theorem wp_B' {σ : L2.St} {H : Hp} {te : TE} {Q : Bool → Hp → Prop} (h : te σ H fun x H1 => ∃ c, x = .bl c ∧ Q c H1) : tB te σ H Q := h
theorem wp_asgQq {σ : L2.St} {H : Hp} {te : TE} {D : Ends} {i : Nat} (h : te σ H fun v H1 => D.nx (σ.set i (some v)) H1) : tAsg te (gName i) D σ H := h
/-- what giver tells: of each number the step that gave it -/
def GvOk (kvs : List (Key × V)) (f : Nat → Option Nat) : Prop := ∀ w : Nat, valV kvs (.inl (w : Int)) = (f w).map fun (g : Nat) => V.int (g : Int)
theorem GvOk.put {kvs : List (Key × V)} {f : Nat → Option Nat} (h : GvOk kvs f) (w n : Nat) : GvOk (putK kvs (.inl (w : Int)) (.int (n : Int))) (fun u => if u = w then some n else f u) := fun u => by
  show _ = Option.map _ (if u = w then some n else f u)
  rw [valV_put]
  by_cases q : u = w
  · subst q
    rw [if_pos rfl, if_pos rfl]
    rfl
  · have z : ¬ (Sum.inl (u : Int) : Key) = Sum.inl (w : Int) := fun e => q (by injection e with e; omega)
    rw [if_neg z, if_neg q]
    exact h u
theorem put_len (kvs : List (Key × V)) (k : Key) (v : V) : (putK kvs k v).length ≤ kvs.length + 1 := by
  unfold putK
  split
  · rw [List.length_map]; omega
  · rw [List.length_append]; exact Nat.le_refl _
/-- a wire of a step, as the program finds its giver -/
theorem lotS_some {lots : List Nat} {acc g : Nat} {l : Lab} (h : l.1 = some g) : lotS lots acc l = (acc ||| lots.getD g 0) ||| (1 <<< g) := by unfold lotS; rw [h]
theorem lotS_none {lots : List Nat} {acc : Nat} {l : Lab} (h : l.1 = none) : lotS lots acc l = acc := by unfold lotS; rw [h]
abbrev lotD (m : WayM) (n : Nat) : PyData := natsD (lotsN m n)
theorem cl_hung_lots (S : Env P w K mg base) : Cl P w K mg base 6 "hung_lots" ["way"] (SpOr (SpP (AWk K) fun m H v => Dt H v (lotD m m.ss.length)) (SpX (BadW K))) := mk_cl S.fun_hung_lots S.glo_hung_lots sc_hung_lots (fun _ _ _ _ _ _ us hl => match us, hl with | [_], _ => rfl) (or_len (wy_len awk_len) (x_len badw_len)) fun cdv A outer s H vs Q E hr h => by
  have nd := sc_hung_lots.nd
  refine ⟨_, (pss_cons (ps_set (i := 1) nd rfl (by first | exact Or.inl rfl | exact Or.inr rfl) pe_dnewK)
    (pss_cons (ps_set (i := 2) nd rfl (by first | exact Or.inl rfl | exact Or.inr rfl) (pe_lst pa_nil))
    (pss_cons (ps_for (passes_of rfl) rfl (pi_enumK (K := K) rfl rfl S.free_enumerate (pa_cons (pe_cl (cl_wires S) hr (by decide) (passes_call (takes_of rfl rfl rfl rfl) fun _ _ _ _ h => h) (by rfl) (pa_cons (pv 0) pa_nil)) pa_nil)) (pg_tupK (K := K) (n := 2) rfl rfl (pgs_cons (pg_name (i := 3) nd rfl (by first | exact Or.inl rfl | exact Or.inr rfl)) (pgs_cons (pg_tupK (K := K) (n := 2) rfl rfl (pgs_cons (pg_name (i := 4) nd rfl (by first | exact Or.inl rfl | exact Or.inr rfl)) (pgs_cons (pg_name (i := 5) nd rfl (by first | exact Or.inl rfl | exact Or.inr rfl)) pgs_nil))) pgs_nil)))
    (pss_cons (ps_set (i := 6) nd rfl (by first | exact Or.inl rfl | exact Or.inr rfl) pe_int)
    (pss_cons (ps_for (passes_of rfl) rfl (pi_listK (K := K) rfl (pv 4)) (pg_name (i := 7) nd rfl (by first | exact Or.inl rfl | exact Or.inr rfl))
    (pss_one (ps_if (pt_cmp (pc_din (u1 hr) (pv 7) (pv 1)) (by rfl)) (pss_one (ps_set (i := 6) nd rfl (by first | exact Or.inl rfl | exact Or.inr rfl) (pe_op op_or (pe_op op_or (pv 6) (pe_ix (r := rIxL K) ix_list (pv 2) (pe_dget (u1 hr) (pv 1) (pv 7) (fun _ _ => rfl)) (fun _ _ => rfl))) (pe_op op_shl pe_int (pe_dget (u1 hr) (pv 1) (pv 7) (fun _ _ => rfl)))))) pss_nil)))
    (pss_cons (ps_expr (pe_bmK (K := K) (r := rAppend) rfl PySem.F.plainAttrs_list PySem.F.slot_list_append PySem.F.type_list_append mt_append (pv 2) (pa_cons (pv 6) pa_nil)))
    (pss_one (ps_for (passes_of rfl) rfl (pi_listK (K := K) rfl (pv 5)) (pg_name (i := 7) nd rfl (by first | exact Or.inl rfl | exact Or.inr rfl))
    (pss_one (ps_asg (pv 3) (pg_sub (pv 1) (pv 7) (set_dict (u1 hr)))))))))))
    (pss_one (ps_ret (pv 2)))))), ?_⟩
  rcases h with ⟨F0, m, e0, ⟨ok, x, rfl, hx⟩, hQ⟩ | ⟨F0, C, f, z, e0, hb, hE⟩
  · have kn := Kn.start e0
    have nl : m.ss.length ≤ 1000 := ok.n
    refine wp_asg fun ld hld0 => ?_
    obtain ⟨kn1, Fld⟩ := kn_own (o := .dK []) kn hld0
    have h0d : H ld = none := hld0
    have hld : upd H ld (.dK []) ld = some (.dK []) := upd_same
    have ex1 : Ex H (upd H ld (.dK [])) := Ex.new hld0
    generalize upd H ld (.dK []) = H1 at kn1 hld ex1
    refine q_newN kn1 da_nil (by simp) fun ll xs F2 H2 s2 hll0 hl1 hll hxs => ?_
    cases hxs.nil_
    have h0l : H ll = none := exdm ex1 ll hl1
    have ne : ld ≠ ll := fun q => by rw [q, hl1] at hld; cases hld
    have hx2 := WayAt.mo _ _ _ _ _ _ s2.ff hx
    refine q_for s2.kn (wk_enum (da_cons (EvR.toD (r_callL m (pa_wk (p_var rfl hx2 (WayAt.mo _ _ _)) ok))) da_nil)) (fun i σ' F' H' => (∃ y3 y4 y5 y6 y7, σ' = [some x, some (.ref ld), some (.ref ll), y3, y4, y5, y6, y7]) ∧ (∃ kvs, H' ld = some (.dK kvs) ∧ GvOk kvs (gvBy m i) ∧ kvs.length ≤ freshAt m.rs m.z m.ss i) ∧ F' ld = none ∧ H' ll = some (.lst (natsV (lotsN m i))) ∧ F' ll = none) ?_ ?_ ?_ ?_
    · intro F3 H3 s3
      exact ⟨⟨_, _, _, _, _, rfl⟩, ⟨[], s3.ex _ _ (s2.ex _ _ hld), fun w => rfl, Nat.zero_le _⟩, s3.fr _ _ (s2.ex _ _ hld) (s2.fr _ _ hld Fld), s3.ex _ _ hll, s3.fr _ _ hll hll0⟩
    · rintro i σ' F' H' H2 ⟨hσ, ⟨kvs, g1, g2⟩, g3, g4, g5⟩ kn' e
      have s := kn'.step (H1 := H2) e
      exact ⟨hσ, ⟨kvs, e _ _ g1, g2⟩, s.fr _ _ g1 g3, e _ _ g4, s.fr _ _ g4 g5⟩
    · rintro i d y σ' F' H' hi kn' eF hd ⟨⟨y3, y4, y5, y6, y7, rfl⟩, ⟨kvs, g1, g2, g2l⟩, g3, g4, g5⟩ N hN
      have il : i < m.ss.length := by
        have z := (List.getElem?_eq_some_iff.mp hi).1
        rw [enumD_len] at z
        unfold pairsD at z
        rw [List.length_map, List.length_range] at z
        exact z
      have hs : m.ss[i]? = some m.ss[i] := List.getElem?_eq_getElem il
      generalize m.ss[i] = st at hs
      have hp : (pairsD m m.ss.length)[i]? = some (.tuple [natsD (nums m (tkL m i)), natsD (nums m (givenL m.rs i st))]) := by
        unfold pairsD
        rw [List.getElem?_map, List.getElem?_range il]
        show some (pairAt m i) = _
        unfold pairAt
        rw [hs, tkL_eq hs]
      rw [enumD_get hp] at hi
      cases hi
      obtain ⟨p1, xs1, rfl, hp1, hxs1⟩ := hd.tuple_
      obtain ⟨u1, u2, rfl, hu1, hu2⟩ := da2_ hxs1
      obtain ⟨p2, xs2, rfl, hp2, hxs2⟩ := hu2.tuple_
      obtain ⟨u3, u4, rfl, hu3, hu4⟩ := da2_ hxs2
      cases hu1.int_
      refine ⟨p1, _, rfl, SqT.of (kn'.fh _ _ hp1), rfl, _, [_], rfl, _, [], rfl, ⟨p2, _, rfl, SqT.of (kn'.fh _ _ hp2), rfl, u3, [u4], rfl, u4, [], rfl, rfl, rfl, ?_⟩⟩
      refine q_asg (d := .int 0) kn' d_int fun v0 F3 H3 s3 hv0 => ?_
      cases hv0.int_
      have a1 := s3.ex _ _ g1
      have a2 := s3.ex _ _ g4
      have b1 := s3.fr _ _ g1 g3
      have b2 := s3.fr _ _ g4 g5
      have tkm : ∀ {j : Nat} {l : Lab}, (tkL m i)[j]? = some l → gvBy m i (numL m.rs m.z m.ss l) = l.1 := fun h => giver_num (by omega) (tk_row (List.mem_of_getElem? h)).2
      refine q_for s3.kn (wk_list (d_var rfl (hu3.ex s3.ff))) (fun j σ' F' H' => (∃ y7, σ' = [some x, some (.ref ld), some (.ref ll), some (.int (i : Nat)), some u3, some u4, some (.int (((tkL m i).take j).foldl (lotS (lotsN m i)) 0 : Nat)), y7]) ∧ H' ld = some (.dK kvs) ∧ F' ld = none ∧ H' ll = some (.lst (natsV (lotsN m i))) ∧ F' ll = none) ?_ ?_ ?_ ?_
      · intro F4 H4 s4
        exact ⟨⟨_, rfl⟩, s4.ex _ _ a1, s4.fr _ _ a1 b1, s4.ex _ _ a2, s4.fr _ _ a2 b2⟩
      · rintro j σ' F' H' H2 ⟨hσ, c1, c2, c3, c4⟩ kn4 e
        have s := kn4.step (H1 := H2) e
        exact ⟨hσ, e _ _ c1, s.fr _ _ c1 c2, e _ _ c3, s.fr _ _ c3 c4⟩
      · rintro j d y σ' F4 H4 hj kn4 eF4 hd ⟨⟨z7, rfl⟩, c1, c2, c3, c4⟩ N' hN'
        obtain ⟨wn, hwn, rfl⟩ := map_at hj
        unfold nums at hwn
        obtain ⟨l, hl, rfl⟩ := map_at hwn
        cases hd.int_
        have ho := g2 (numL m.rs m.z m.ss l)
        rw [tkm hl] at ho
        have tks : (tkL m i).take (j + 1) = (tkL m i).take j ++ [l] := take_snoc hl
        have fs : ((tkL m i).take (j + 1)).foldl (lotS (lotsN m i)) 0 = lotS (lotsN m i) (((tkL m i).take j).foldl (lotS (lotsN m i)) 0) l := by rw [tks, List.foldl_append]; rfl
        generalize ((tkL m i).take j).foldl (lotS (lotsN m i)) 0 = acc at fs ⊢
        refine wp_ifE (wp_B' ⟨.int (numL m.rs m.z m.ss l : Nat), rfl, .ref ld, rfl, ld, valV kvs (.inl ((numL m.rs m.z m.ss l : Nat) : Int)), rfl, DGet.k (k := .inl ((numL m.rs m.z m.ss l : Nat) : Int)) c1, _, rfl, ?_⟩)
        cases hl1' : l.1 with
        | none =>
          rw [hl1'] at ho
          rw [ho]
          show (if (none : Option V).isSome = true then _ else _)
          rw [if_neg (by decide)]
          refine wp_next ?_
          rw [lotS_none hl1'] at fs
          refine hN' _ F4 H4 kn4 (Ex.refl _) ⟨⟨some (.int ((numL m.rs m.z m.ss l : Nat) : Int)), ?_⟩, c1, c2, c3, c4⟩
          rw [fs]
          rfl
        | some g =>
          rw [hl1'] at ho
          rw [ho]
          show (if (some (V.int (g : Int))).isSome = true then _ else _)
          rw [if_pos (show (some (V.int (g : Int))).isSome = true from rfl)]
          have gi : g < i := tk_lt (List.mem_of_getElem? hl) hl1'
          have gl : (lotsN m i)[g]? = some ((lotsN m i).getD g 0) := by
            rw [List.getD_eq_getElem?_getD, lotsN_get m gi]
            rfl
          have dl : ∀ {σ : L2.St}, σ[1]? = some (some (.ref ld)) → σ[7]? = some (some (.int ((numL m.rs m.z m.ss l : Nat) : Int))) → EvD (tDGet (tVar 1) (tVar 7)) σ H4 (.int (g : Int)) := fun h1 h7 => d_dgetI (ev_var h1) (d_var h7 (.int _)) c1 ho
          have ev : EvD (tOp (rI0 fun i j => .int (Builtin.bitOr i j)) (tOp (rI0 fun i j => .int (Builtin.bitOr i j)) (tVar 6) (tOp (rIxL K) (tVar 2) (tDGet (tVar 1) (tVar 7)))) (tOp (rI CPow fun i j => .int (i * 2 ^ j.toNat)) (tC (.int 1)) (tDGet (tVar 1) (tVar 7)))) [some x, some (.ref ld), some (.ref ll), some (.int (i : Nat)), some u3, some u4, some (.int (acc : Nat)), some (.int ((numL m.rs m.z m.ss l : Nat) : Int))] H4 (.int ((lotS (lotsN m i) acc l : Nat) : Int)) := by
            rw [lotS_some hl1']
            exact d_orI (d_orI (d_var rfl (.int _)) (d_ixL (d_var rfl (nats_tr c3).dt) (dl rfl rfl) (atI_nat (by rw [List.getElem?_map, gl]; rfl)))) (d_shl1 d_int (dl rfl rfl) (by omega))
          refine wp_asgQq (ev H4 (Ex.refl _) _ fun v5 H5 e5 hv5 => ?_)
          cases hv5.int_
          have s5 := kn4.step e5
          refine hN' _ _ H5 s5.kn s5.ff ⟨⟨some (.int ((numL m.rs m.z m.ss l : Nat) : Int)), ?_⟩, e5 _ _ c1, s5.fr _ _ c1 c2, e5 _ _ c3, s5.fr _ _ c3 c4⟩
          rw [fs]
          rfl
      · rintro σ' F4 H4 kn4 eF4 ⟨⟨z7, rfl⟩, c1, c2, c3, c4⟩
        have lt : ((nums m (tkL m i)).map fun (n : Nat) => PyData.int (n : Int)).length = (tkL m i).length := by rw [List.length_map]; unfold nums; rw [List.length_map]
        rw [lt, List.take_length]
        have el : (tkL m i).foldl (lotS (lotsN m i)) 0 = lotA m i := rfl
        rw [el]
        refine q_app kn4 c3 c4 h0l (ev_var rfl) (d := .int (lotA m i : Nat)) (d_var rfl (.int _)) (by unfold natsV; rw [List.length_map, lotsN_len]; omega) fun v5 F5 H5 k5 e5 n5 hv5 l5 o5 fr5 => ?_
        cases hv5.int_
        have c1' := o5 _ _ ne c1
        have f1' := fr5 _ _ c1 c2
        have hu45 : Dt F5 u4 (natsD (nums m (givenL m.rs i st))) := hu4.ex ((s3.ff.trans eF4).trans e5)
        refine k_for k5 (wk_list (d_var rfl hu45)) (fun j σ' F' H' => (∃ y7, σ' = [some x, some (.ref ld), some (.ref ll), some (.int (i : Nat)), some u3, some u4, some (.int (lotA m i : Nat)), y7]) ∧ (∃ kvs', H' ld = some (.dK kvs') ∧ GvOk kvs' (fun w => if w ∈ (nums m (givenL m.rs i st)).take j then some i else gvBy m i w) ∧ kvs'.length ≤ freshAt m.rs m.z m.ss i + j) ∧ F' ld = none ∧ H' ll = some (.lst (natsV (lotsN m (i + 1)))) ∧ F' ll = none) ?_ ?_ ?_ ?_
        · intro F6 H6 s6
          refine ⟨⟨_, rfl⟩, ⟨kvs, s6.ex _ _ c1', fun w => ?_, by omega⟩, s6.fr _ _ c1' f1', ?_, s6.fr _ _ l5 n5⟩
          · show _ = Option.map _ (if w ∈ (nums m (givenL m.rs i st)).take 0 then _ else _)
            rw [List.take_zero, if_neg (by simp)]
            exact g2 w
          · rw [s6.ex _ _ l5]
            show _ = some (HO.lst (natsV (lotsN m i ++ [lotA m i])))
            unfold natsV
            rw [List.map_append]
            rfl
        · rintro j σ' F' H' H2 ⟨hσ, ⟨kvs', c1, c2⟩, c3, c4, c5⟩ kn' e
          have s := kn'.step (H1 := H2) e
          exact ⟨hσ, ⟨kvs', e _ _ c1, c2⟩, s.fr _ _ c1 c3, e _ _ c4, s.fr _ _ c4 c5⟩
        · rintro j d y σ' F6 H6 hj kn6 eF6 hd ⟨⟨z7', rfl⟩, ⟨kvs', c1, c2, c2l⟩, c3, c4, c5⟩ N' hN'
          obtain ⟨wn, hwn, rfl⟩ := map_at hj
          cases hd.int_
          have jl := (List.getElem?_eq_some_iff.mp hwn).1
          have gnl : (nums m (givenL m.rs i st)).length = goL m.rs st := by unfold nums givenL; rw [List.length_map, List.length_map, List.length_range]
          have gle : goL m.rs st ≤ 1000 := by
            cases h : m.rs[st.2.1]? with
            | none => unfold goL; rw [h]; exact Nat.zero_le _
            | some q => rw [goL_eq h]; exact (ok.b.at_ h).gl _
          have fl := fresh_le ok i
          have sz : kvs'.length < sizeLine := by rw [sizeLine_eq]; omega
          refine ⟨.int (i : Nat), rfl, .ref ld, rfl, .int (wn : Nat), rfl, ld, upd H6 ld (.dK (putK kvs' (.inl (wn : Int)) (.int (i : Nat)))), rfl, DPut.k (k := .inl (wn : Int)) c1 sz, ?_⟩
          refine hN' _ F6 _ (kn6.upd_ c3 h0d) (Ex.refl _) ⟨⟨_, rfl⟩, ⟨_, upd_same, fun u => ?_, Nat.le_trans (put_len _ _ _) (by omega)⟩, c3, by rw [upd_ne (Ne.symm ne)]; exact c4, c5⟩
          have z := (GvOk.put c2 wn i) u
          rw [z]
          show Option.map _ (if u = wn then some i else if u ∈ (nums m (givenL m.rs i st)).take j then some i else gvBy m i u) = Option.map _ (if u ∈ (nums m (givenL m.rs i st)).take (j + 1) then some i else gvBy m i u)
          congr 1
          rw [take_snoc hwn]
          by_cases q : u = wn
          · rw [if_pos q, if_pos (by rw [q]; simp)]
          · rw [if_neg q]
            by_cases q2 : u ∈ (nums m (givenL m.rs i st)).take j
            · rw [if_pos q2, if_pos (List.mem_append.mpr (.inl q2))]
            · rw [if_neg q2, if_neg (fun z => (List.mem_append.mp z).elim q2 fun z => q (List.mem_singleton.mp z))]
        · rintro σ' F6 H6 kn6 eF6 ⟨⟨z7', rfl⟩, ⟨kvs', c1, c2, c2l⟩, c3, c4, c5⟩
          have gnl : (nums m (givenL m.rs i st)).length = goL m.rs st := by unfold nums givenL; rw [List.length_map, List.length_map, List.length_range]
          rw [List.length_map] at c2 c2l
          rw [List.take_length] at c2
          refine hN _ F6 H6 kn6 (((s3.ff.trans eF4).trans e5).trans eF6) ⟨⟨_, _, _, _, _, rfl⟩, ⟨kvs', c1, fun u => ?_, by rw [fresh_s hs]; omega⟩, c3, c4, c5⟩
          rw [c2 u]
          congr 1
          show (if u ∈ nums m (givenL m.rs i st) then some i else gvBy m i u) = if freshAt m.rs m.z m.ss i ≤ u ∧ u < freshAt m.rs m.z m.ss (i + 1) then some i else gvBy m i u
          have iff := given_nums_at (m := m) hs (w := u)
          by_cases q : u ∈ nums m (givenL m.rs i st)
          · rw [if_pos q, if_pos (iff.mp q)]
          · rw [if_neg q, if_neg (fun z => q (iff.mpr z))]
    · rintro σ' F' H' kn' eF ⟨⟨y3, y4, y5, y6, y7, rfl⟩, _, g3, g4, g5⟩
      have en : (enumD (pairsD m m.ss.length)).length = m.ss.length := by rw [enumD_len]; unfold pairsD; rw [List.length_map, List.length_range]
      rw [en] at g4
      exact k_finL hQ kn' g4 g5 h0l (nats_all _).dt (ev_var rfl)
  · have kn := Kn.start e0
    obtain ⟨⟨xx, rfl, _⟩, _⟩ := id hb
    refine wp_asg fun ld hld0 => ?_
    obtain ⟨kn1, Fld⟩ := kn_own (o := .dK []) kn hld0
    have ex1 : Ex H (upd H ld (.dK [])) := Ex.new hld0
    generalize upd H ld (.dK []) = H1 at kn1 ex1
    refine q_newN kn1 da_nil (by simp) fun ll xs F2 H2 s2 hll0 hl1 hll hxs => ?_
    have ex2 := ex1.trans s2.ex
    show tCall (SpOr _ (SpX _)) [] _ _ _ _ _
    exact x_call (s2.ff.trans s2.kn.fh) (pa_v1 rfl hb badw_mo) fun d H' e hd hn => hE d H' (ex2.trans e) (exdm ex2 d hn) hd
theorem pa_si {σ : L2.St} {F : Hp} {ta tb : TE} {lot n : Nat} (ha : EvD ta σ F (.int (lot : Int))) (hb : EvD tb σ F (.int (n : Int))) (hn : n ≤ 1000) : EvPA (tCons ta (tCons tb tNil)) σ F (ASi (lot, n)) := fun H1 e Q q =>
  da_cons ha (da_cons hb da_nil) H1 e _ fun vs H2 e2 hv => by
    obtain ⟨u, v, rfl, h1, h2⟩ := da2_ hv
    cases h1.int_
    cases h2.int_
    exact q _ H2 e2 ⟨hn, rfl⟩
theorem cl_hangs (S : Env P w K mg base) : Cl P w K mg base 7 "hangs" ["way"] (SpOr (SpR (AWk K) hungD) (SpX (BadW K))) := mk_cl S.fun_hangs S.glo_hangs sc_hangs (fun _ _ _ _ _ _ us hl => match us, hl with | [_], _ => rfl) (or_len (r_len awk_len) (x_len badw_len)) fun cdv A outer s H vs Q E hr h => by
  have nd := sc_hangs.nd
  refine ⟨_, (pss_one (ps_ret (pe_lc (own := [("index", 1), ("lot", 2)]) rfl nd (pi_enumK (K := K) rfl rfl S.free_enumerate (pa_cons (pe_cl (cl_hung_lots S) hr (by decide) (passes_call (takes_of rfl rfl rfl rfl) fun _ _ _ _ h => h) (by rfl) (pa_cons (pv 0) pa_nil)) pa_nil)) (blkOk_by (N := ["way", "index", "lot"]) (sc := defScope s_hangs) (by decide +kernel)) (fun _ _ _ _ _ => (pg_tupK (K := K) (n := 2) rfl rfl (pgs_cons (pg_name (i := 1) nd rfl (by first | exact Or.inl rfl | exact Or.inr rfl)) (pgs_cons (pg_name (i := 2) nd rfl (by first | exact Or.inl rfl | exact Or.inr rfl)) pgs_nil)))) (fun _ _ _ _ _ => pts_nil) (fun _ _ _ _ _ => (pe_cl (cl_steps_in S) hr (by decide) pass_none (by rfl) (pa_cons (pv 2) (pa_cons (pv 1) pa_nil))))))), ?_⟩
  rcases h with ⟨F0, m, e0, ⟨ok, x, rfl, hx⟩, hQ⟩ | ⟨F0, C, f, z, e0, hb, hE⟩
  · have nl : m.ss.length ≤ 1000 := ok.n
    have il : ((lotsN m m.ss.length).map fun (n : Nat) => PyData.int (n : Int)).length = m.ss.length := by rw [List.length_map, lotsN_len]
    refine kr_fin hQ (Kn.start e0) ((er_lc (b := fun _ => true) (r := fun i => natsD (hung m i)) (wk_enum (da_cons (EvP.toD (p_callL (res := fun (m : WayM) H v => Dt H v (lotD m m.ss.length)) m (pa_wk (p_var rfl hx (WayAt.mo _ _ _)) ok) (mo_dt _))) da_nil)) (by rw [enumD_len, il]; omega) fun i d y F' H' hi e1 e2 hd Q hQ' => ?_).is ?_)
    · have il2 := (List.getElem?_eq_some_iff.mp hi).1
      rw [enumD_len, il] at il2
      have hg : ((lotsN m m.ss.length).map fun (n : Nat) => PyData.int (n : Int))[i]? = some (.int (lotA m i : Nat)) := by
        rw [List.getElem?_map, lotsN_get m il2]
        rfl
      rw [enumD_get hg] at hi
      cases hi
      refine gt2 hd e2 fun u v hu hv => hQ' _ rfl (fun H1 _ Q q => q H1 (Ex.refl H1)) fun _ => ?_
      exact (r_call (lotA m i, i) (pa_si (d_var rfl hv) (d_var rfl hu) (by omega))).is rfl
    · rw [enumD_len, il]
      unfold hungD
      rw [List.filter_eq_self.mpr (fun _ _ => rfl)]
  · obtain ⟨⟨xx, rfl, _⟩, _⟩ := id hb
    show tCall (SpOr _ (SpX _)) [] _ _ _ _ _
    exact x_call e0 (pa_v1 rfl hb badw_mo) fun d H' e hd hn => hE d H' e hn hd
end
end K10
namespace K10
open PySem PySem.Spec PyProof.Rows L2 Evl WB
section
variable {P : Program} {w : World} {K : PySem.W.Frag} {mg : Str → Option Value} {base : Heap}
/-- one Book, itself; one Way, itself -/
abbrev RB (K : PySem.W.Frag) : Addr → Addr → Hp → Prop := fun a b H => a = b ∧ ∃ rs, BkSm rs ∧ BookAt (CB K) rs H (.ref a)
abbrev RW (K : PySem.W.Frag) : Addr → Addr → Hp → Prop := fun a b H => a = b ∧ ∃ m, CaseB m ∧ WayAt (CB K) (CW K) m H (.ref a)
abbrev rSame (K : PySem.W.Frag) : R2 := fun x y H Q => rEqD K x y H Q ∨ (fun x y H Q => rEqG (DIns (CB K) (RB K)) x y H Q ∨ (fun x y H Q => rEqG (DIns (CW K) (RW K)) x y H Q ∨ rEq x y H Q) x y H Q) x y H Q
theorem mt_Book___eq__ (S : Env P w K mg base) : Mt P w K mg base 1 (He.ga K "Book") "__eq__" ["self", "other"] (spEq (RB K)) := mk_mt S.fun_Book___eq__ S.cls_Book S.meth_Book___eq__ sc_Book___eq__ (fun _ _ _ _ _ _ us hl => match us, hl with | [_, _], _ => rfl) (fun vs H Q E ⟨_, _, e, _⟩ => by rw [e]; rfl) fun cdv A outer s H vs Q E hr h => by
  have nd := sc_Book___eq__.nd
  refine ⟨_, (pss_one (ps_ret (pe_and (pe_callB (r := rIsi K) (id := "isinstance") call_isi (by rfl) S.free_isinstance (by decide +kernel) (pa_cons (pv 1) (pa_cons (pe_glob (v := V.ref (He.ga K "Book")) (by rfl) S.glo_Book rfl) pa_nil))) (pe_one (pe_cmpR (r := rEqD K) (op_eqD hr.units) (pe_fldK (K := K) rfl (pv 0)) (pe_fldK (K := K) rfl (pv 1)) (nomark _)))))), ?_⟩
  obtain ⟨a, b, rfl, ⟨rfl, rs, ok, hb⟩, hQ⟩ := h
  have kn := Kn.start (Ex.refl H)
  have sh := rules_shaped rs fun q hq => ⟨(ok.r q hq).1.w1, (ok.r q hq).1.w2⟩
  have fld : EvD (tFld K (tVar 0) "_rules") (L2.start ["self", "other"] [.ref a, .ref a]) H (rulesD rs) := EvP.toD (p_fld S.cls_Book S.noat_Book__rules (p_var rfl hb (BookAt.mo _ _)) fun G v ⟨a, dx, l, e1, e2, e3⟩ => ⟨a, dx, _, _, e1, e2, rfl, e3⟩)
  have fld2 : EvD (tFld K (tVar 1) "_rules") (L2.start ["self", "other"] [.ref a, .ref a]) H (rulesD rs) := EvP.toD (p_fld S.cls_Book S.noat_Book__rules (p_var rfl hb (BookAt.mo _ _)) fun G v ⟨a, dx, l, e1, e2, e3⟩ => ⟨a, dx, _, _, e1, e2, rfl, e3⟩)
  refine k_fin (Q := Q) (r := .bool true) (fun v H' e hv => ?_) kn ((d_and (p_isiO (p_var rfl hb (BookAt.mo _ _)) (bk_ty S) (BookAt.mo _ _) S.kit_Book_Book) fun _ => d_eqD (d1 := rulesD rs) (d2 := rulesD rs) fld fld2 (by unfold rulesD plainD; exact rules_plain _) (by unfold rulesD plainD; exact rules_plain _) sh sh).is ?_)
  · cases hv.bool_
    exact hQ H' e
  · have e : PyData.eqv (rulesD rs) (rulesD rs) = true := by unfold rulesD PyData.eqv; exact rules_eqv rs
    rw [e]
    rfl
theorem rc_Book {X : Cx} (S : Env X.prog X.w X.K X.mg X.base) : RcG X 1 (DIns (CB X.K) (RB X.K)) := by
  obtain ⟨f, fd, F, hc, hm, hb⟩ := mt_Book___eq__ S
  exact rcG_ins (E := fun _ _ _ => False) F hm.at_ hm.fn hb pass_none
/-- the way's book, itself -/
abbrev BkIs (K : PySem.W.Frag) (rs : List Rule) (c : Addr) : Hp → V → Prop := fun G v => v = .ref c ∧ BookAt (CB K) rs G (.ref c)
theorem d_eqB {σ : L2.St} {F : Hp} {ta tb : TE} {rs : List Rule} {c : Addr} (ok : BkSm rs) (ha : EvP ta σ F (BkIs K rs c)) (hb : EvP tb σ F (BkIs K rs c)) : EvD (tOp (rEqG (DIns (CB K) (RB K))) ta tb) σ F (.bool true) := fun H1 e Q q =>
  ha H1 e _ fun x H2 e2 hx => hb H2 (e.trans e2) _ fun y H3 e3 hy => by
    obtain ⟨rfl, h1⟩ := hx
    obtain ⟨rfl, h2⟩ := hy
    have h3 := BookAt.mo _ _ _ _ _ (nw_ex ((e.trans e2).trans e3)) h2
    have h4 := h3
    obtain ⟨a, dx, l, e1, g1, _⟩ := h4
    cases e1
    exact ⟨⟨c, c, dx, dx, _, _, rfl, rfl, g1, g1, rfl, rs, ok, h3⟩, fun H4 e4 => q _ H4 ((e2.trans e3).trans e4) (.bl true)⟩
theorem mt_Way___eq__ (S : Env P w K mg base) : Mt P w K mg base 2 (He.ga K "Way") "__eq__" ["self", "other"] (spEq (RW K)) := mk_mt S.fun_Way___eq__ S.cls_Way S.meth_Way___eq__ sc_Way___eq__ (fun _ _ _ _ _ _ us hl => match us, hl with | [_, _], _ => rfl) (fun vs H Q E ⟨_, _, e, _⟩ => by rw [e]; rfl) fun cdv A outer s H vs Q E hr h => by
  have nd := sc_Way___eq__.nd
  refine ⟨_, (pss_one (ps_ret (pe_and (pe_callB (r := rIsi K) (id := "isinstance") call_isi (by rfl) S.free_isinstance (by decide +kernel) (pa_cons (pv 1) (pa_cons (pe_glob (v := V.ref (He.ga K "Way")) (by rfl) S.glo_Way rfl) pa_nil))) (pe_and (pe_cmpR op_eq (pe_fldK (K := K) rfl (pv 0)) (pe_fldK (K := K) rfl (pv 1)) (nomark _)) (pe_and (pe_cmpR (r := rEqG (DIns (CB K) (RB K))) (op_eqG (rc_Book S) (hr.mono (by decide))) (pe_fldK (K := K) rfl (pv 0)) (pe_fldK (K := K) rfl (pv 1)) (nomark _)) (pe_one (pe_cmpR (r := rEqD K) (op_eqD hr.units) (pe_fldK (K := K) rfl (pv 0)) (pe_fldK (K := K) rfl (pv 1)) (nomark _)))))))), ?_⟩
  obtain ⟨a, b, rfl, ⟨rfl, m, ok, hw⟩, hQ⟩ := h
  have kn := Kn.start (Ex.refl H)
  obtain ⟨a', dx, bv, l1, l2, e1, h1, h2, h3, h4⟩ := hw
  cases e1
  have hw : WayAt (CB K) (CW K) m H (.ref a) := ⟨a, dx, bv, l1, l2, rfl, h1, h2, h3, h4⟩
  obtain ⟨c, dc, lc, rfl, _⟩ := id h2
  have p0 : ∀ i, (L2.start ["self", "other"] [.ref a, .ref a])[i]? = some (some (.ref a)) → EvP (tVar i) (L2.start ["self", "other"] [.ref a, .ref a]) H (fun G v => v = .ref a ∧ G a = some (.ins (CW K) dx (wayFs (.ref c) m.z l1 l2)) ∧ BookAt (CB K) m.rs G (.ref c) ∧ Dt G (.ref l2) (stepsD m.ss)) := fun i hi => p_var hi ⟨rfl, h1, h2, h4⟩ fun G G' v e ⟨q1, q2, q3, q4⟩ => ⟨q1, e _ _ q2, BookAt.mo _ _ _ _ _ e q3, q4.ex e⟩
  have fz : ∀ i, (L2.start ["self", "other"] [.ref a, .ref a])[i]? = some (some (.ref a)) → EvD (tFld K (tVar i) "_word") (L2.start ["self", "other"] [.ref a, .ref a]) H (.str m.z) := fun i hi => EvP.toD (p_fld S.cls_Way S.noat_Way__word (p0 i hi) fun G v ⟨q1, q2, q3, q4⟩ => ⟨a, dx, _, _, q1, q2, rfl, .str _⟩)
  have fb : ∀ i, (L2.start ["self", "other"] [.ref a, .ref a])[i]? = some (some (.ref a)) → EvP (tFld K (tVar i) "_book") (L2.start ["self", "other"] [.ref a, .ref a]) H (BkIs K m.rs c) := fun i hi => p_fld S.cls_Way S.noat_Way__book (p0 i hi) fun G v ⟨q1, q2, q3, q4⟩ => ⟨a, dx, _, _, q1, q2, rfl, rfl, q3⟩
  have fs : ∀ i, (L2.start ["self", "other"] [.ref a, .ref a])[i]? = some (some (.ref a)) → EvD (tFld K (tVar i) "_steps") (L2.start ["self", "other"] [.ref a, .ref a]) H (stepsD m.ss) := fun i hi => EvP.toD (p_fld S.cls_Way S.noat_Way__steps (p0 i hi) fun G v ⟨q1, q2, q3, q4⟩ => ⟨a, dx, _, _, q1, q2, rfl, q4⟩)
  have sh := steps_shaped m.ss
  have pl : plainD (stepsD m.ss) = true := by unfold stepsD plainD; exact steps_plain _
  refine k_fin (Q := Q) (r := .bool true) (fun v H' e hv => ?_) kn ((d_and (p_isiO (p_var rfl hw (WayAt.mo _ _ _)) (wy_ty S) (WayAt.mo _ _ _) S.kit_Way_Way) fun _ => d_and (d_eq (fz 0 rfl) (fz 1 rfl)) fun _ => d_and (d_eqB ok.b (fb 0 rfl) (fb 1 rfl)) fun _ => d_eqD (d1 := stepsD m.ss) (d2 := stepsD m.ss) (fs 0 rfl) (fs 1 rfl) pl pl sh sh).is ?_)
  · cases hv.bool_
    exact hQ H' e
  · have e : PyData.eqv (stepsD m.ss) (stepsD m.ss) = true := by unfold stepsD PyData.eqv; exact steps_eqv m.ss
    rw [e]
    simp
theorem rc_Way {X : Cx} (S : Env X.prog X.w X.K X.mg X.base) : RcG X 2 (DIns (CW X.K) (RW X.K)) := by
  obtain ⟨f, fd, F, hc, hm, hb⟩ := mt_Way___eq__ S
  exact rcG_ins (E := fun _ _ _ => False) F hm.at_ hm.fn hb pass_none
end
end K10
namespace K10
open PySem PySem.Spec PyProof.Rows L2 Evl WB
section
variable {P : Program} {w : World} {K : PySem.W.Frag} {mg : Str → Option Value} {base : Heap}
mutual
/-- what is compared: numbers, truths, texts, None, lists, tuples, the empty dict, one instance -/
def okD (K : PySem.W.Frag) (o : Option (Addr × Addr)) : PyData → Prop
  | .none | .bool _ | .int _ | .str _ => True
  | .list ds => ds.length ≤ 30000 ∧ okDs K o ds
  | .tuple ds => ds.length ≤ 30000 ∧ okDs K o ds
  | .dict kvs => kvs = [] ∨ ∃ a C, o = some (a, C) ∧ (C = CB K ∨ C = CW K) ∧ kvs = [(.int (a : Nat), .int (C : Nat))]
def okDs (K : PySem.W.Frag) (o : Option (Addr × Addr)) : List PyData → Prop
  | [] => True
  | d :: ds => okD K o d ∧ okDs K o ds
end
mutual
def dpS : PyData → Nat
  | .none | .bool _ | .int _ | .str _ => 0
  | .list ds => dpSs ds + 1
  | .tuple ds => dpSs ds + 1
  | .dict _ => 2
def dpSs : List PyData → Nat
  | [] => 0
  | d :: ds => max (dpS d) (dpSs ds)
end
theorem okDs_mem {o : Option (Addr × Addr)} : ∀ {ds : List PyData} {d : PyData}, okDs K o ds → d ∈ ds → okD K o d ∧ dpS d ≤ dpSs ds
  | [], _, _, h => by cases h
  | e :: r, d, ok, h => by
    unfold okDs at ok
    unfold dpSs
    rcases List.mem_cons.mp h with q | q
    · rw [q]; exact ⟨ok.1, Nat.le_max_left ..⟩
    · obtain ⟨h1, h2⟩ := okDs_mem ok.2 q
      exact ⟨h1, Nat.le_trans h2 (Nat.le_max_right ..)⟩
def isTup : PyData → Bool
  | .tuple _ => true
  | _ => false
def isDic : PyData → Bool
  | .dict [] => true
  | _ => false
theorem ok_ty (S : Env P w K mg base) {o : Option (Addr × Addr)} {d : PyData} (ok : okD K o d) : HasTy K d := by
  cases d with
  | dict kvs =>
    unfold okD at ok
    rcases ok with rfl | ⟨a, C, _, rfl | rfl, rfl⟩
    · exact ty_of rfl
    · exact ty_ins fun H dx fs h => S.ins_Book h
    · exact ty_ins fun H dx fs h => S.ins_Way h
  | _ => exact ty_of rfl
def isLst : PyData → Bool
  | .list _ => true
  | _ => false
structure Kits (K : PySem.W.Frag) (d : PyData) : Prop where
  l : PySem.W.kitOne K (tyD d) (.type "list") = some (isLst d)
  t : PySem.W.kitOne K (tyD d) (.type "tuple") = some (isTup d)
  dc : PySem.W.kitOne K (tyD d) (.type "dict") = some (isDic d)
  i : PySem.W.kitOne K (tyD d) (.type "int") = some (isIntB d)
  b : PySem.W.kitOne K (tyD d) (.type "bool") = some (isBl d)
theorem ok_kits (S : Env P w K mg base) {o : Option (Addr × Addr)} {d : PyData} (ok : okD K o d) : Kits K d := by
  cases d with
  | dict kvs =>
    unfold okD at ok
    rcases ok with rfl | ⟨a, C, _, rfl | rfl, rfl⟩
    · exact ⟨kit_ty (r := false) (by decide +kernel), kit_ty (r := false) (by decide +kernel), kit_ty (r := true) (by decide +kernel), kit_ty (r := false) (by decide +kernel), kit_ty (r := false) (by decide +kernel)⟩
    · exact ⟨S.kot_Book_list, S.kot_Book_tuple, S.kot_Book_dict, S.kot_Book_int, S.kot_Book_bool⟩
    · exact ⟨S.kot_Way_list, S.kot_Way_tuple, S.kot_Way_dict, S.kot_Way_int, S.kot_Way_bool⟩
  | none => exact ⟨kit_ty (r := false) (by decide +kernel), kit_ty (r := false) (by decide +kernel), kit_ty (r := false) (by decide +kernel), kit_ty (r := false) (by decide +kernel), kit_ty (r := false) (by decide +kernel)⟩
  | bool _ => exact ⟨kit_ty (r := false) (by decide +kernel), kit_ty (r := false) (by decide +kernel), kit_ty (r := false) (by decide +kernel), kit_ty (r := true) (by decide +kernel), kit_ty (r := true) (by decide +kernel)⟩
  | int _ => exact ⟨kit_ty (r := false) (by decide +kernel), kit_ty (r := false) (by decide +kernel), kit_ty (r := false) (by decide +kernel), kit_ty (r := true) (by decide +kernel), kit_ty (r := false) (by decide +kernel)⟩
  | str _ => exact ⟨kit_ty (r := false) (by decide +kernel), kit_ty (r := false) (by decide +kernel), kit_ty (r := false) (by decide +kernel), kit_ty (r := false) (by decide +kernel), kit_ty (r := false) (by decide +kernel)⟩
  | list _ => exact ⟨kit_ty (r := true) (by decide +kernel), kit_ty (r := false) (by decide +kernel), kit_ty (r := false) (by decide +kernel), kit_ty (r := false) (by decide +kernel), kit_ty (r := false) (by decide +kernel)⟩
  | tuple _ => exact ⟨kit_ty (r := false) (by decide +kernel), kit_ty (r := true) (by decide +kernel), kit_ty (r := false) (by decide +kernel), kit_ty (r := false) (by decide +kernel), kit_ty (r := false) (by decide +kernel)⟩
theorem any1 {t : Value} {us : List Value} {n : String} {a r : Bool} (h : PySem.W.kitOne K t (.type n) = some a) (h2 : PySem.W.kitAny K t us = some r) : PySem.W.kitAny K t (.type n :: us) = some (a || r) := by
  cases a with
  | false => exact kitAny_cons (b := false) h (fun _ => h2) (fun z => nomatch z)
  | true => exact kitAny_cons (b := true) h (fun z => nomatch z) (fun _ => rfl)
theorem Kits.row {d : PyData} (k : Kits K d) : PySem.W.kitAny K (tyD d) [.type "list", .type "tuple"] = some (isLst d || (isTup d || false)) := any1 k.l (any1 k.t kitAny_nil)
theorem Kits.four {d : PyData} (k : Kits K d) : PySem.W.kitAny K (tyD d) [.type "int", .type "list", .type "tuple", .type "dict"] = some (isIntB d || (isLst d || (isTup d || (isDic d || false)))) := any1 k.i (any1 k.l (any1 k.t (any1 k.dc kitAny_nil)))
/-- an instance that is known -/
def InsOk (K : PySem.W.Frag) (F : Hp) (p : Addr × Addr) : Prop := (p.2 = CB K ∧ ∃ rs, BkSm rs ∧ BookAt (CB K) rs F (.ref p.1)) ∨ (p.2 = CW K ∧ ∃ m, CaseB m ∧ WayAt (CB K) (CW K) m F (.ref p.1))
theorem InsOk.ex {F G : Hp} {p : Addr × Addr} (h : InsOk K F p) (e : Ex F G) : InsOk K G p := by
  rcases h with ⟨h1, rs, h2, h3⟩ | ⟨h1, m, h2, h3⟩
  · exact .inl ⟨h1, rs, h2, BookAt.mo _ _ _ _ _ e h3⟩
  · exact .inr ⟨h1, m, h2, WayAt.mo _ _ _ _ _ _ e h3⟩
/-- the promise: data of one kind, less deep than n -/
def SpSm (K : PySem.W.Frag) (n : Nat) : Sp := fun vs H Q _ => ∃ F x y d o, vs = [x, y] ∧ Ex F H ∧ Dt F x d ∧ Dt F y d ∧ okD K o d ∧ (∀ p, o = some p → InsOk K F p) ∧ dpS d < n ∧ ∀ H', Ex H H' → Q (.bl true) H'
theorem SpSm_len {n : Nat} (vs : List V) (H : Hp) (Q : VK) (E : XK) (h : SpSm K n vs H Q E) : vs.length = 2 := by
  obtain ⟨_, _, _, _, _, rfl, _⟩ := h
  rfl
section
variable {σ : L2.St} {F : Hp} {ta tb : TE} {d : PyData} {o : Option (Addr × Addr)} {n : Nat} {E : XK}
theorem d_same (ha : EvD ta σ F d) (hb : EvD tb σ F d) (ok : okD K o d) (ho : ∀ p, o = some p → InsOk K F p) (hn : dpS d < n) : EvD (tCall (SpSm K n) [] E (tCons ta (tCons tb tNil))) σ F (.bool true) := fun H1 e Q q => da_cons ha (da_cons hb da_nil) H1 e _ fun vs H2 e2 hv => by
  obtain ⟨x, y, rfl, hx, hy⟩ := da2_ hv
  show SpSm K n ([x, y] ++ []) H2 Q E
  exact ⟨nw F H1 H2, x, y, d, o, rfl, nw_ex (e.trans e2), hx, hy, ok, fun a h => (ho a h).ex (ex_nw e), hn, fun H' e3 => q _ H' (e2.trans e3) (.bl true)⟩
theorem d_lenAL {ds : List PyData} (h : EvD ta σ F (.list ds)) : EvD (tCB (rLenA K) (tCons ta tNil)) σ F (.int (ds.length : Int)) := d_cb (da_cons h da_nil) (cb1 rfl fun H1 v hx Q q => by
  obtain ⟨a, ys, rfl, h2, h3⟩ := hx.list_
  exact .inl ⟨a, ys, rfl, .inl (SqL.of h2), by rw [h3.len]; exact q⟩)
theorem d_lenAT {ds : List PyData} (h : EvD ta σ F (.tuple ds)) : EvD (tCB (rLenA K) (tCons ta tNil)) σ F (.int (ds.length : Int)) := d_cb (da_cons h da_nil) (cb1 rfl fun H1 v hx Q q => by
  obtain ⟨a, ys, rfl, h2, h3⟩ := hx.tuple_
  exact .inl ⟨a, ys, rfl, .inr (SqT.of h2), by rw [h3.len]; exact q⟩)
theorem d_eqS (ha : EvD ta σ F d) (hb : EvD tb σ F d) (p : plainD d = true) (s : SeqAt.shaped d = true) (h : PyData.eqv d d = true) : EvD (tOp (rSame K) ta tb) σ F (.bool true) :=
  d_op ha hb (opS rfl fun H1 x y hx hy Q q => Or.inl ⟨d, d, hx.dp p, hy.dp p, s, s, by rw [h]; exact q⟩)
theorem d_eqC {x : V} (ha : EvD ta σ F d) (hb : EvD tb σ F d) (e : sc d = some x) (h : scal x x = true) : EvD (tOp (rSame K) ta tb) σ F (.bool true) :=
  d_op ha hb (opS rfl fun H1 x' y' hx hy Q q => by
    cases dt_sc hx e
    cases dt_sc hy e
    exact Or.inr (Or.inr (Or.inr ⟨h, by rw [decide_eq_true rfl]; exact q⟩)))
theorem dt_ins {C : Addr} {a : Addr} {G : Hp} {v : V} (h : Dt G v (.dict [(.int (a : Nat), .int (C : Nat))])) : v = .ref a ∧ ∃ dx fs, G a = some (.ins C dx fs) := by
  generalize q : PyData.dict [(.int (a : Nat), .int (C : Nat))] = dd at h
  cases h with
  | @ins a' C' dx fs h1 =>
    have e1 : (a : Int) = (a' : Nat) := by injection q with q; injection q with q _; injection q with q _; injection q
    have e2 : (C : Int) = (C' : Nat) := by injection q with q; injection q with q _; injection q with _ q; injection q
    have e3 : a = a' := Int.ofNat.inj e1
    have e4 : C = C' := Int.ofNat.inj e2
    subst e3 e4
    exact ⟨rfl, dx, fs, h1⟩
  | _ => cases q
theorem d_eqI {a C : Addr} (ha : EvD ta σ F (.dict [(.int (a : Nat), .int (C : Nat))])) (hb : EvD tb σ F (.dict [(.int (a : Nat), .int (C : Nat))])) (ho : InsOk K F (a, C)) : EvD (tOp (rSame K) ta tb) σ F (.bool true) := fun H1 e Q q =>
  ha H1 e _ fun x H2 e2 hx => hb H2 (e.trans e2) _ fun y H3 e3 hy => by
    obtain ⟨rfl, dx, fs, h1⟩ := dt_ins hx
    obtain ⟨rfl, dy, gs, h2⟩ := dt_ins hy
    have ex : Ex F H3 := (e.trans e2).trans e3
    have g1 := e3 _ _ (nw_ex (e.trans e2) _ _ h1)
    have g2 := nw_ex ex _ _ h2
    rcases ho with ⟨rfl, rs, ok, hk⟩ | ⟨rfl, m, ok, hk⟩
    · exact Or.inr (Or.inl ⟨⟨a, a, dx, dy, fs, gs, rfl, rfl, g1, g2, rfl, rs, ok, BookAt.mo _ _ _ _ _ ex hk⟩, fun H4 e4 => q _ H4 ((e2.trans e3).trans e4) (.bl true)⟩)
    · exact Or.inr (Or.inr (Or.inl ⟨⟨a, a, dx, dy, fs, gs, rfl, rfl, g1, g2, rfl, m, ok, WayAt.mo _ _ _ _ _ _ ex hk⟩, fun H4 e4 => q _ H4 ((e2.trans e3).trans e4) (.bl true)⟩))
end
theorem shaped_of {d : PyData} (h1 : d.canLay0 = true) (h2 : d.depth ≤ 64) : SeqAt.shaped d = true := by
  show (d.canLay0 && decide (d.depth ≤ 64)) = true
  rw [Bool.and_eq_true]
  exact ⟨h1, decide_eq_true h2⟩
theorem all_true (ds : List PyData) : ((ds.map fun _ => true).all id) = true := by
  rw [List.all_eq_true]
  intro x hx
  obtain ⟨_, _, rfl⟩ := List.mem_map.mp hx
  rfl
theorem zip_at {ds : List PyData} {i : Nat} {d : PyData} (h : (zipD ds ds)[i]? = some d) : ∃ x ∈ ds, d = .tuple [x, x] := by
  unfold zipD at h
  rw [List.getElem?_zipWith] at h
  cases z : ds[i]? with
  | none => rw [z] at h; cases h
  | some x => rw [z] at h; cases h; exact ⟨x, List.mem_of_getElem? z, rfl⟩
theorem zip_len (ds : List PyData) : (zipD ds ds).length = ds.length := by
  unfold zipD
  rw [List.length_zipWith, Nat.min_self]
end
end K10
namespace K10
open PySem PySem.Spec PyProof.Rows L2 Evl WB
section
variable {P : Program} {w : World} {K : PySem.W.Frag} {mg : Str → Option Value} {base : Heap}
theorem st__law_same (S : Env P w K mg base) (n : Nat) (ih : Cl P w K mg base (n + 2) "_law_same" ["found", "due"] ((SpSm K) n)) : Cl P w K mg base (n + 3) "_law_same" ["found", "due"] ((SpSm K) (n + 1)) := mk_cl S.fun__law_same S.glo__law_same sc__law_same (fun _ _ _ _ _ _ us hl => match us, hl with | [_, _], _ => rfl) (SpSm_len) fun cdv A outer s H vs Q E hr h => by
  have nd := sc__law_same.nd
  refine ⟨_, (pss_cons (ps_if (pt_val (pe_callB (r := rIsiT K) (id := "isinstance") call_isiT (by rfl) S.free_isinstance (by decide +kernel) (pa_cons (pv 1) (pa_cons (pe_tup (pa_cons (pe_bltn (v := V.ty "list") (by rfl) S.free_list (by decide +kernel) rfl) (pa_cons (pe_bltn (v := V.ty "tuple") (by rfl) S.free_tuple (by decide +kernel) rfl) pa_nil))) pa_nil)))) (pss_cons (ps_if (PW.pt (pw_or (pt_cmpR op_ne (pe_callB (r := rIsi K) (id := "isinstance") call_isi (by rfl) S.free_isinstance (by decide +kernel) (pa_cons (pv 0) (pa_cons (pe_bltn (v := V.ty "list") (by rfl) S.free_list (by decide +kernel) rfl) pa_nil))) (pe_callB (r := rIsi K) (id := "isinstance") call_isi (by rfl) S.free_isinstance (by decide +kernel) (pa_cons (pv 1) (pa_cons (pe_bltn (v := V.ty "list") (by rfl) S.free_list (by decide +kernel) rfl) pa_nil))) (nomark _)) (pw_or1 (pt_cmpR op_ne (pe_callB (r := rIsi K) (id := "isinstance") call_isi (by rfl) S.free_isinstance (by decide +kernel) (pa_cons (pv 0) (pa_cons (pe_bltn (v := V.ty "tuple") (by rfl) S.free_tuple (by decide +kernel) rfl) pa_nil))) (pe_callB (r := rIsi K) (id := "isinstance") call_isi (by rfl) S.free_isinstance (by decide +kernel) (pa_cons (pv 1) (pa_cons (pe_bltn (v := V.ty "tuple") (by rfl) S.free_tuple (by decide +kernel) rfl) pa_nil))) (nomark _))))) (pss_one (ps_ret pe_bl)) pss_nil)
    (pss_one (ps_ret (pe_and (pe_cmpR op_eq (pe_callB (r := rLenA K) (id := "len") call_len_any (by rfl) S.free_len (by decide +kernel) (pa_cons (pv 0) pa_nil)) (pe_callB (r := rLenA K) (id := "len") call_len_any (by rfl) S.free_len (by decide +kernel) (pa_cons (pv 1) pa_nil)) (nomark _)) (pe_one (pe_callB (r := rAll K) (id := "all") (cr_all rfl) (by rfl) S.free_all (by decide +kernel) (pa_cons (pe_lc (own := [("x", 2), ("y", 3)]) rfl nd (pi_zipAK (K := K) rfl rfl S.free_zip (pa_cons (pv 0) (pa_cons (pv 1) pa_nil))) (blkOk_by (N := ["found", "due", "x", "y"]) (sc := defScope s__law_same) (by decide +kernel)) (fun _ _ _ _ _ => (pg_tupK (K := K) (n := 2) rfl rfl (pgs_cons (pg_name (i := 2) nd rfl (by first | exact Or.inl rfl | exact Or.inr rfl)) (pgs_cons (pg_name (i := 3) nd rfl (by first | exact Or.inl rfl | exact Or.inr rfl)) pgs_nil)))) (fun _ _ _ _ _ => pts_nil) (fun _ _ _ _ _ => (pe_cl ih hr (Nat.le_refl _) pass_none (by rfl) (pa_cons (pv 2) (pa_cons (pv 3) pa_nil))))) pa_nil))))))) pss_nil)
    (pss_cons (ps_if (pt_val (pe_callB (r := rIsi K) (id := "isinstance") call_isi (by rfl) S.free_isinstance (by decide +kernel) (pa_cons (pv 1) (pa_cons (pe_bltn (v := V.ty "dict") (by rfl) S.free_dict (by decide +kernel) rfl) pa_nil)))) (pss_one (ps_ret (pe_and (pe_callB (r := rIsi K) (id := "isinstance") call_isi (by rfl) S.free_isinstance (by decide +kernel) (pa_cons (pv 0) (pa_cons (pe_bltn (v := V.ty "dict") (by rfl) S.free_dict (by decide +kernel) rfl) pa_nil))) (pe_one (pe_cl ih hr (Nat.le_refl _) pass_none (by rfl) (pa_cons (LiI.pe_listItems rfl (pv 0) (by rfl) S.free_list (by decide +kernel)) (pa_cons (LiI.pe_listItems rfl (pv 1) (by rfl) S.free_list (by decide +kernel)) pa_nil))))))) pss_nil)
    (pss_cons (ps_if (pt_val (pe_callB (r := rIsi K) (id := "isinstance") call_isi (by rfl) S.free_isinstance (by decide +kernel) (pa_cons (pv 1) (pa_cons (pe_bltn (v := V.ty "int") (by rfl) S.free_int (by decide +kernel) rfl) pa_nil)))) (pss_one (ps_ret (pe_and (pe_callB (r := rIsi K) (id := "isinstance") call_isi (by rfl) S.free_isinstance (by decide +kernel) (pa_cons (pv 0) (pa_cons (pe_bltn (v := V.ty "int") (by rfl) S.free_int (by decide +kernel) rfl) pa_nil))) (pe_and (pe_cmpR op_eq (pe_callB (r := rIsi K) (id := "isinstance") call_isi (by rfl) S.free_isinstance (by decide +kernel) (pa_cons (pv 0) (pa_cons (pe_bltn (v := V.ty "bool") (by rfl) S.free_bool (by decide +kernel) rfl) pa_nil))) (pe_callB (r := rIsi K) (id := "isinstance") call_isi (by rfl) S.free_isinstance (by decide +kernel) (pa_cons (pv 1) (pa_cons (pe_bltn (v := V.ty "bool") (by rfl) S.free_bool (by decide +kernel) rfl) pa_nil))) (nomark _)) (pe_one (pe_cmpR (r := rSame K) (op_or (op_eqD hr.units) (op_or (op_eqG (rc_Book S) (hr.mono (by omega))) (op_or (op_eqG (rc_Way S) (hr.mono (by omega))) op_eq))) (pv 0) (pv 1) (nomark _))))))) pss_nil)
    (pss_one (ps_ret (pe_and (pe_not (pe_callB (r := rIsiT K) (id := "isinstance") call_isiT (by rfl) S.free_isinstance (by decide +kernel) (pa_cons (pv 0) (pa_cons (pe_tup (pa_cons (pe_bltn (v := V.ty "int") (by rfl) S.free_int (by decide +kernel) rfl) (pa_cons (pe_bltn (v := V.ty "list") (by rfl) S.free_list (by decide +kernel) rfl) (pa_cons (pe_bltn (v := V.ty "tuple") (by rfl) S.free_tuple (by decide +kernel) rfl) (pa_cons (pe_bltn (v := V.ty "dict") (by rfl) S.free_dict (by decide +kernel) rfl) pa_nil))))) pa_nil)))) (pe_one (pe_cmpR (r := rSame K) (op_or (op_eqD hr.units) (op_or (op_eqG (rc_Book S) (hr.mono (by omega))) (op_or (op_eqG (rc_Way S) (hr.mono (by omega))) op_eq))) (pv 0) (pv 1) (nomark _))))))))), ?_⟩
  obtain ⟨F0, x, y, d, o, rfl, e0, hx, hy, ok, ho, hn, hQ⟩ := h
  have kn := Kn.start e0
  have ty := ok_ty S ok
  have ks := ok_kits S ok
  have fin : ∀ v H', Ex H H' → Dt (nw F0 H H') v (.bool true) → Q v H' := fun v H' e hv => by
    cases hv.bool_
    exact hQ H' e
  cases d with
  | list ds =>
    unfold okD at ok
    unfold dpS at hn
    refine q_ifT kn (t_B (d_isiT2 (d_var rfl hy) ty ks.row)) rfl fun F1 H1 s1 => ?_
    refine q_ifF s1.kn (et_or (t_val (d_ne (d_isi (d_var rfl (hx.ex s1.ff)) ty ks.l) (d_isi (d_var rfl (hy.ex s1.ff)) ty ks.l))) fun _ => t_val (d_ne (d_isi (d_var rfl (hx.ex s1.ff)) ty ks.t) (d_isi (d_var rfl (hy.ex s1.ff)) ty ks.t))) rfl fun F2 H2 s2 => ?_
    have t2 := s1.trans s2
    have hx2 := hx.ex t2.ff
    have hy2 := hy.ex t2.ff
    refine k_fin (Q := Q) fin s2.kn ((d_and (d_eq (d_lenAL (d_var rfl hx2)) (d_lenAL (d_var rfl hy2))) fun _ => d_allL (bs := ds.map fun _ => true) (d_lcm (wk_zipAL (da_cons (d_var rfl hx2) (da_cons (d_var rfl hy2) da_nil))) ?_ ?_ fun i d r x F' H' hi hr e1 e2 hd Q hQ' => ?_)).is ?_)
    · rw [zip_len]
      exact Nat.le_trans ok.1 (by decide)
    · rw [zip_len]
      simp
    · obtain ⟨z, zm, rfl⟩ := zip_at hi
      obtain ⟨o1, o2⟩ := okDs_mem ok.2 zm
      rw [List.map_map] at hr
      obtain ⟨_, _, rfl⟩ := map_at hr
      exact gt2 hd e2 fun y z hy hz => hQ' _ rfl (d_same (d_var rfl hy) (d_var rfl hz) o1 (fun a h => (ho a h).ex (t2.ff.trans e1)) (by omega))
    · rw [all_true, decide_eq_true rfl]
      rfl
  | tuple ds =>
    unfold okD at ok
    unfold dpS at hn
    refine q_ifT kn (t_B (d_isiT2 (d_var rfl hy) ty ks.row)) rfl fun F1 H1 s1 => ?_
    refine q_ifF s1.kn (et_or (t_val (d_ne (d_isi (d_var rfl (hx.ex s1.ff)) ty ks.l) (d_isi (d_var rfl (hy.ex s1.ff)) ty ks.l))) fun _ => t_val (d_ne (d_isi (d_var rfl (hx.ex s1.ff)) ty ks.t) (d_isi (d_var rfl (hy.ex s1.ff)) ty ks.t))) rfl fun F2 H2 s2 => ?_
    have t2 := s1.trans s2
    have hx2 := hx.ex t2.ff
    have hy2 := hy.ex t2.ff
    refine k_fin (Q := Q) fin s2.kn ((d_and (d_eq (d_lenAT (d_var rfl hx2)) (d_lenAT (d_var rfl hy2))) fun _ => d_allL (bs := ds.map fun _ => true) (d_lcm (wk_zipAT (da_cons (d_var rfl hx2) (da_cons (d_var rfl hy2) da_nil))) ?_ ?_ fun i d r x F' H' hi hr e1 e2 hd Q hQ' => ?_)).is ?_)
    · rw [zip_len]
      exact Nat.le_trans ok.1 (by decide)
    · rw [zip_len]
      simp
    · obtain ⟨z, zm, rfl⟩ := zip_at hi
      obtain ⟨o1, o2⟩ := okDs_mem ok.2 zm
      rw [List.map_map] at hr
      obtain ⟨_, _, rfl⟩ := map_at hr
      exact gt2 hd e2 fun y z hy hz => hQ' _ rfl (d_same (d_var rfl hy) (d_var rfl hz) o1 (fun a h => (ho a h).ex (t2.ff.trans e1)) (by omega))
    · rw [all_true, decide_eq_true rfl]
      rfl
  | int i =>
    refine q_ifF kn (t_B (d_isiT2 (d_var rfl hy) ty ks.row)) rfl fun F1 H1 s1 => ?_
    refine q_ifF s1.kn (t_B (d_isi (d_var rfl (hy.ex s1.ff)) ty ks.dc)) rfl fun F2 H2 s2 => ?_
    have t2 := s1.trans s2
    refine q_ifT s2.kn (t_B (d_isi (d_var rfl (hy.ex t2.ff)) ty ks.i)) rfl fun F3 H3 s3 => ?_
    have t3 := t2.trans s3
    refine k_fin (Q := Q) fin s3.kn ((d_and (d_isi (d_var rfl (hx.ex t3.ff)) ty ks.i) fun _ => d_and (d_eq (d_isi (d_var rfl (hx.ex t3.ff)) ty ks.b) (d_isi (d_var rfl (hy.ex t3.ff)) ty ks.b)) fun _ => d_eqS (d_var rfl (hx.ex t3.ff)) (d_var rfl (hy.ex t3.ff)) rfl (shaped_of (by simp [PyData.canLay0]) (by simp [PyData.depth])) (by simp [PyData.eqv])).is ?_)
    rw [decide_eq_true rfl]
    rfl
  | bool b =>
    refine q_ifF kn (t_B (d_isiT2 (d_var rfl hy) ty ks.row)) rfl fun F1 H1 s1 => ?_
    refine q_ifF s1.kn (t_B (d_isi (d_var rfl (hy.ex s1.ff)) ty ks.dc)) rfl fun F2 H2 s2 => ?_
    have t2 := s1.trans s2
    refine q_ifT s2.kn (t_B (d_isi (d_var rfl (hy.ex t2.ff)) ty ks.i)) rfl fun F3 H3 s3 => ?_
    have t3 := t2.trans s3
    refine k_fin (Q := Q) fin s3.kn ((d_and (d_isi (d_var rfl (hx.ex t3.ff)) ty ks.i) fun _ => d_and (d_eq (d_isi (d_var rfl (hx.ex t3.ff)) ty ks.b) (d_isi (d_var rfl (hy.ex t3.ff)) ty ks.b)) fun _ => d_eqS (d_var rfl (hx.ex t3.ff)) (d_var rfl (hy.ex t3.ff)) rfl (shaped_of (by simp [PyData.canLay0]) (by simp [PyData.depth])) (by simp [PyData.eqv])).is ?_)
    rw [decide_eq_true rfl]
    rfl
  | none =>
    refine q_ifF kn (t_B (d_isiT2 (d_var rfl hy) ty ks.row)) rfl fun F1 H1 s1 => ?_
    refine q_ifF s1.kn (t_B (d_isi (d_var rfl (hy.ex s1.ff)) ty ks.dc)) rfl fun F2 H2 s2 => ?_
    have t2 := s1.trans s2
    refine q_ifF s2.kn (t_B (d_isi (d_var rfl (hy.ex t2.ff)) ty ks.i)) rfl fun F3 H3 s3 => ?_
    have t3 := t2.trans s3
    exact k_fin (Q := Q) fin s3.kn ((d_and (d_not (d_isiT4 (d_var rfl (hx.ex t3.ff)) ty ks.four)) fun _ => d_eqS (d_var rfl (hx.ex t3.ff)) (d_var rfl (hy.ex t3.ff)) rfl (shaped_of (by simp [PyData.canLay0]) (by simp [PyData.depth])) (by simp [PyData.eqv])).is rfl)
  | str z =>
    refine q_ifF kn (t_B (d_isiT2 (d_var rfl hy) ty ks.row)) rfl fun F1 H1 s1 => ?_
    refine q_ifF s1.kn (t_B (d_isi (d_var rfl (hy.ex s1.ff)) ty ks.dc)) rfl fun F2 H2 s2 => ?_
    have t2 := s1.trans s2
    refine q_ifF s2.kn (t_B (d_isi (d_var rfl (hy.ex t2.ff)) ty ks.i)) rfl fun F3 H3 s3 => ?_
    have t3 := t2.trans s3
    exact k_fin (Q := Q) fin s3.kn ((d_and (d_not (d_isiT4 (d_var rfl (hx.ex t3.ff)) ty ks.four)) fun _ => d_eqC (d_var rfl (hx.ex t3.ff)) (d_var rfl (hy.ex t3.ff)) rfl rfl).is rfl)
  | dict kvs =>
    unfold okD at ok
    unfold dpS at hn
    rcases ok with rfl | ⟨a, C, ha, hC, rfl⟩
    · refine q_ifF kn (t_B (d_isiT2 (d_var rfl hy) ty ks.row)) rfl fun F1 H1 s1 => ?_
      refine q_ifT s1.kn (t_B (d_isi (d_var rfl (hy.ex s1.ff)) ty ks.dc)) rfl fun F2 H2 s2 => ?_
      have t2 := s1.trans s2
      exact k_fin (Q := Q) fin s2.kn ((d_and (d_isi (d_var rfl (hx.ex t2.ff)) ty ks.dc) fun _ => d_same (o := none) (d_items0 (d_var rfl (hx.ex t2.ff))) (d_items0 (d_var rfl (hy.ex t2.ff))) (by unfold okD; exact ⟨Nat.zero_le _, by unfold okDs; trivial⟩) (fun a h => nomatch h) (by unfold dpS dpSs; omega)).is rfl)
    · refine q_ifF kn (t_B (d_isiT2 (d_var rfl hy) ty ks.row)) rfl fun F1 H1 s1 => ?_
      refine q_ifF s1.kn (t_B (d_isi (d_var rfl (hy.ex s1.ff)) ty ks.dc)) rfl fun F2 H2 s2 => ?_
      have t2 := s1.trans s2
      refine q_ifF s2.kn (t_B (d_isi (d_var rfl (hy.ex t2.ff)) ty ks.i)) rfl fun F3 H3 s3 => ?_
      have t3 := t2.trans s3
      exact k_fin (Q := Q) fin s3.kn ((d_and (d_not (d_isiT4 (d_var rfl (hx.ex t3.ff)) ty ks.four)) fun _ => d_eqI (d_var rfl (hx.ex t3.ff)) (d_var rfl (hy.ex t3.ff)) ((ho _ ha).ex t3.ff)).is rfl)
theorem cl__law_same (S : Env P w K mg base) : ∀ n, Cl P w K mg base (n + 2) "_law_same" ["found", "due"] (SpSm K n)
  | 0 => mk_cl S.fun__law_same S.glo__law_same sc__law_same (fun _ _ _ _ _ _ us hl => match us, hl with | [_, _], _ => rfl) SpSm_len fun cdv A outer s H vs Q E hr h => by
    obtain ⟨F, x, y, d, o, _, _, _, _, _, _, z, _⟩ := h
    exact absurd z (Nat.not_lt_zero _)
  | n + 1 => st__law_same S n (cl__law_same S n)
end
end K10
namespace K10
open PySem PySem.Spec PyProof.Rows L2 Evl WB
section
variable {P : Program} {w : World} {K : PySem.W.Frag} {mg : Str → Option Value} {base : Heap}
theorem cl7_same (S : Env P w K mg base) : Cl P w K mg base 9 "_law_same" ["found", "due"] (SpSm K 7) := cl__law_same S 7
/-- a new stream of these numbers -/
def SpSt (K : PySem.W.Frag) : Sp := fun vs H Q _ => ∃ a xs, vs = [.ref a] ∧ SqL K H a ((xs : List Int).map V.int) ∧ ∀ l s H', Ex H H' → H l = none → H s = none → l ≠ s → StA l s 0 H' → Q (.ref l) H'
theorem SpSt_len (vs : List V) (H : Hp) (Q : VK) (E : XK) (h : SpSt K vs H Q E) : vs.length = 1 := by
  obtain ⟨_, _, rfl, _⟩ := h
  rfl
theorem cl__law_start (S : Env P w K mg base) : Cl P w K mg base 1 "_law_start" ["script"] (SpSt K) := mk_cl S.fun__law_start S.glo__law_start sc__law_start (fun _ _ _ _ _ _ us hl => match us, hl with | [_], _ => rfl) (SpSt_len) fun cdv A outer s H vs Q E hr h => by
  have nd := sc__law_start.nd
  refine ⟨_, (pss_one (ps_ret (pe_lst (pa_cons (pe_callTy (r := rListQ K) (T := "list") call_list_of (by rfl) S.free_list (by decide +kernel) (pa_cons (pv 0) pa_nil)) (pa_cons pe_int (pa_cons pe_int (pa_cons pe_int pa_nil))))))), ?_⟩
  obtain ⟨a, xs, rfl, ha, hQ⟩ := h
  refine wp_ret (wp_lst (wp_cons ?_))
  refine ⟨_, rfl, ?_⟩
  refine ⟨a, _, rfl, .inl ha, fun l hl => ?_⟩
  refine wp_cons (wp_c (wp_cons (wp_c (wp_cons (wp_c (wp_nil ⟨by show 4 ≤ sizeLine; decide, fun p hp => ?_⟩))))))
  have ne : l ≠ p := fun z => by
    rw [← z, upd_same] at hp
    cases hp
  have hp0 : H p = none := by rw [upd_ne (Ne.symm ne)] at hp; exact hp
  exact hQ p l _ ((Ex.new hl).trans (Ex.new hp)) hp0 hl (Ne.symm ne) ⟨xs, 0, 0, 19, upd_same, by rw [upd_ne ne, upd_same], by decide, by decide, by decide, by decide, by decide⟩
theorem dpSs_le {n : Nat} : ∀ {ds : List PyData}, (∀ d ∈ ds, dpS d ≤ n) → dpSs ds ≤ n
  | [], _ => Nat.zero_le _
  | d :: ds, h => by
    unfold dpSs
    exact Nat.max_le.mpr ⟨h d (List.mem_cons_self ..), dpSs_le fun e m => h e (List.mem_cons_of_mem _ m)⟩
theorem okDs_of {o : Option (Addr × Addr)} : ∀ {ds : List PyData}, (∀ d ∈ ds, okD K o d) → okDs K o ds
  | [], _ => trivial
  | d :: ds, h => by
    unfold okDs
    exact ⟨h d (List.mem_cons_self ..), okDs_of fun e m => h e (List.mem_cons_of_mem _ m)⟩
theorem okList {o : Option (Addr × Addr)} {ds : List PyData} (n : ds.length ≤ 30000) (h : ∀ d ∈ ds, okD K o d) : okD K o (.list ds) := by
  unfold okD
  exact ⟨n, okDs_of h⟩
theorem okTuple {o : Option (Addr × Addr)} {ds : List PyData} (n : ds.length ≤ 30000) (h : ∀ d ∈ ds, okD K o d) : okD K o (.tuple ds) := by
  unfold okD
  exact ⟨n, okDs_of h⟩
theorem dpList {n : Nat} {ds : List PyData} (h : ∀ d ∈ ds, dpS d ≤ n) : dpS (.list ds) ≤ n + 1 := by
  unfold dpS
  exact Nat.succ_le_succ (dpSs_le h)
theorem dpTuple {n : Nat} {ds : List PyData} (h : ∀ d ∈ ds, dpS d ≤ n) : dpS (.tuple ds) ≤ n + 1 := by
  unfold dpS
  exact Nat.succ_le_succ (dpSs_le h)
theorem okRules {o : Option (Addr × Addr)} {rs : List Rule} (h : rs.length ≤ 1000) : okD K o (rulesD rs) := okList (by rw [List.length_map]; omega) fun d m => by
  obtain ⟨r, _, rfl⟩ := List.mem_map.mp m
  unfold ruleD
  exact okTuple (by show 2 ≤ _; decide) fun d m => by
    simp only [List.mem_cons, List.not_mem_nil, or_false] at m
    rcases m with rfl | rfl <;> (unfold okD; trivial)
theorem dpRules (rs : List Rule) : dpS (rulesD rs) ≤ 2 := dpList fun d m => by
  obtain ⟨r, _, rfl⟩ := List.mem_map.mp m
  unfold ruleD
  exact dpTuple fun d m => by
    simp only [List.mem_cons, List.not_mem_nil, or_false] at m
    rcases m with rfl | rfl <;> (unfold dpS; exact Nat.le_refl _)
theorem okSteps {o : Option (Addr × Addr)} {ss : List WStep} (h : ss.length ≤ 1000) : okD K o (stepsD ss) := okList (by rw [List.length_map]; omega) fun d m => by
  obtain ⟨r, _, rfl⟩ := List.mem_map.mp m
  unfold stepD
  exact okTuple (by show 3 ≤ _; decide) fun d m => by
    simp only [List.mem_cons, List.not_mem_nil, or_false] at m
    rcases m with rfl | rfl | rfl <;> (unfold okD; trivial)
theorem dpSteps (ss : List WStep) : dpS (stepsD ss) ≤ 2 := dpList fun d m => by
  obtain ⟨r, _, rfl⟩ := List.mem_map.mp m
  unfold stepD
  exact dpTuple fun d m => by
    simp only [List.mem_cons, List.not_mem_nil, or_false] at m
    rcases m with rfl | rfl | rfl <;> (unfold dpS; exact Nat.le_refl _)
end
end K10
namespace K10
open PySem PySem.Spec PyProof.Rows L2 Evl WB
section
variable {P : Program} {w : World} {K : PySem.W.Frag} {mg : Str → Option Value} {base : Heap}
mutual
/-- lists of a length that goes, of numbers, None, lists, tuples -/
def lensD : PyData → Bool
  | .none | .int _ => true
  | .list ds => decide (ds.length ≤ 30000) && lensDs ds
  | .tuple ds => decide (ds.length ≤ 30000) && lensDs ds
  | _ => false
def lensDs : List PyData → Bool
  | [] => true
  | d :: ds => lensD d && lensDs ds
end
theorem kq1 : kitB "NoneType" "dict" = some false := by decide +kernel
theorem kq2 : kitB "int" "dict" = some false := by decide +kernel
theorem kq3 : kitB "list" "dict" = some false := by decide +kernel
theorem kq4 : kitB "tuple" "dict" = some false := by decide +kernel
theorem kl1 : kitB "NoneType" "list" = some false := by decide +kernel
theorem kl2 : kitB "int" "list" = some false := by decide +kernel
theorem kl3 : kitB "list" "list" = some true := by decide +kernel
theorem kl4 : kitB "tuple" "list" = some false := by decide +kernel
section
variable {σ : L2.St} {F : Hp} {te : TE} {d : PyData}
theorem d_isDict (h : EvD te σ F d) (hd : lensD d = true) : EvD (tCB (rIsi K) (tCons te (tCons (tC (.ty "dict")) tNil))) σ F (.bool false) := by
  cases d with
  | none => exact d_isi h (ty_of rfl) (kit_ty kq1)
  | int i => exact d_isi h (ty_of rfl) (kit_ty kq2)
  | list ds => exact d_isi h (ty_of rfl) (kit_ty kq3)
  | tuple ds => exact d_isi h (ty_of rfl) (kit_ty kq4)
  | _ => cases hd
theorem d_isList (h : EvD te σ F d) (hd : lensD d = true) : EvD (tCB (rIsi K) (tCons te (tCons (tC (.ty "list")) tNil))) σ F (.bool (isLst d)) := by
  cases d with
  | none => exact d_isi h (ty_of rfl) (kit_ty kl1)
  | int i => exact d_isi h (ty_of rfl) (kit_ty kl2)
  | list ds => exact d_isi h (ty_of rfl) (kit_ty kl3)
  | tuple ds => exact d_isi h (ty_of rfl) (kit_ty kl4)
  | _ => cases hd
end
theorem lens_ins {d : PyData} (h : lensD d = true) : isIns d = false := by
  cases d with
  | dict k => cases h
  | _ => rfl
/-- the promise of spoiling, of data less deep than n -/
def SpSp (n : Nat) : Sp := fun vs H Q _ => ∃ v d as, vs = [v] ∧ Tr H v d as ∧ as.Nodup ∧ d.depth < n ∧ lensD d = true ∧ ∀ H', KeepBut as H H' → Dm H H' → Sl H' v d as → Q .non H'
theorem SpSp.len {n : Nat} (vs : List V) (H : Hp) (Q : VK) (E : XK) (h : SpSp n vs H Q E) : vs.length = 1 := by
  obtain ⟨v, d, as, rfl, _⟩ := h
  rfl
theorem keep_ex {as : List Addr} {H H1 H2 : Hp} (e : Ex H H1) (k : KeepBut as H1 H2) : KeepBut as H H2 := fun b o n h => k b o n (e b o h)
theorem keep_of {as : List Addr} {H H1 : Hp} (e : Ex H H1) : KeepBut as H H1 := fun b o _ h => e b o h
theorem kb_trans {as : List Addr} {H H1 H2 : Hp} (a : KeepBut as H H1) (b : KeepBut as H1 H2) : KeepBut as H H2 := fun c o n h => b c o n (a c o n h)
theorem kb_sub {as bs : List Addr} {H H1 : Hp} (a : KeepBut as H H1) (h : ∀ x ∈ as, x ∈ bs) : KeepBut bs H H1 := fun c o n z => a c o (fun m => n (h c m)) z
/-- the state within the loop over the parts -/
structure SpLoop (xs : List V) (ds : List PyData) (as : List Addr) (H0 : Hp) (i : Nat) (H' : Hp) : Prop where
  parts : ∃ xs1 xs2 ds1 ds2 as1 as2, xs = xs1 ++ xs2 ∧ ds = ds1 ++ ds2 ∧ as = as1 ++ as2 ∧ xs1.length = i ∧ SlAll H' xs1 ds1 as1 ∧ TrAll H' xs2 ds2 as2
  keep : KeepBut as H0 H'
  dm : Dm H0 H'
theorem SlAll.nil_ {H : Hp} {as : List Addr} {ds : List PyData} (h : SlAll H [] ds as) : ds = [] ∧ as = [] := by
  cases h
  exact ⟨rfl, rfl⟩
theorem slAll_snoc {H : Hp} : ∀ {xs : List V} {ds : List PyData} {as bs : List Addr} {v : V} {d : PyData}, SlAll H xs ds as → Sl H v d bs → SlAll H (xs ++ [v]) (ds ++ [d]) (as ++ bs)
  | _, _, _, bs, _, _, .nil, h => by
    have z := SlAll.cons h .nil
    rw [List.append_nil] at z
    exact z
  | _, _, _, bs, _, _, .cons g a, h => by
    rw [List.append_assoc]
    exact .cons g (slAll_snoc a h)
theorem depth_mem : ∀ {ds : List PyData} {d : PyData}, d ∈ ds → d.depth ≤ PyData.depthAll ds
  | e :: r, d, h => by
    simp only [PyData.depthAll]
    rcases List.mem_cons.mp h with q | q
    · rw [q]; omega
    · have := depth_mem q; omega
theorem lens_mem : ∀ {ds : List PyData} {d : PyData}, lensDs ds = true → d ∈ ds → lensD d = true
  | e :: r, d, h, m => by
    unfold lensDs at h
    obtain ⟨h1, h2⟩ := Bool.and_eq_true_iff.mp h
    rcases List.mem_cons.mp m with q | q
    · rw [q]; exact h1
    · exact lens_mem h2 q
theorem SpLoop.step {xs : List V} {ds : List PyData} {as : List Addr} {H0 H' : Hp} {i : Nat} {x : V} (h : SpLoop xs ds as H0 i H') (nd : as.Nodup) (hx : xs[i]? = some x) : ∃ d bs, d ∈ ds ∧ Tr H' x d bs ∧ bs.Nodup ∧ (∀ z ∈ bs, z ∈ as) ∧ ∀ H2, KeepBut bs H' H2 → Dm H' H2 → Sl H2 x d bs → SpLoop xs ds as H0 (i + 1) H2 := by
  obtain ⟨⟨xs1, xs2, ds1, ds2, as1, as2, e1, e2, e3, e4, h1, h2⟩, h3, h4⟩ := h
  rw [e1, List.getElem?_append_right (by omega), e4, Nat.sub_self] at hx
  cases h2 with
  | nil => simp at hx
  | @cons v vs d dr bs cs g a =>
    simp at hx
    subst hx
    rw [e3] at nd
    obtain ⟨n1, n2, n3⟩ := List.nodup_append.mp nd
    obtain ⟨n4, n5, n6⟩ := List.nodup_append.mp n2
    have sub : ∀ z ∈ bs, z ∈ as := fun z hz => by
      rw [e3]
      exact List.mem_append.mpr (.inr (List.mem_append.mpr (.inl hz)))
    refine ⟨d, bs, by rw [e2]; simp, g, n4, sub, fun H2 kb dm sl => ⟨⟨xs1 ++ [v], vs, ds1 ++ [d], dr, as1 ++ bs, cs, by rw [e1]; simp, by rw [e2]; simp, by rw [e3]; simp, by simp [e4], ?_, ?_⟩, kb_trans h3 (kb_sub kb sub), h4.trans dm⟩⟩
    · exact slAll_snoc (SlAll.keep kb (fun c hc => g.has c hc) h1 fun z hz hb => n3 z hz z (List.mem_append.mpr (.inl hb)) rfl) sl
    · exact TrAll.keep kb (fun c hc => g.has c hc) a fun z hz hb => n6 z hb z hz rfl
theorem SpLoop.done {xs : List V} {ds : List PyData} {as : List Addr} {H0 H' : Hp} (h : SpLoop xs ds as H0 xs.length H') : SlAll H' xs ds as := by
  obtain ⟨⟨xs1, xs2, ds1, ds2, as1, as2, e1, e2, e3, e4, h1, h2⟩, h3, h4⟩ := h
  have z : xs2 = [] := by
    have := congrArg List.length e1
    rw [List.length_append] at this
    exact List.eq_nil_of_length_eq_zero (by omega)
  subst z
  cases h2
  rw [List.append_nil] at e1 e2 e3
  rw [e1, e2, e3]
  exact h1
theorem wp_drop {σ : L2.St} {H : Hp} {te : TE} {D : Ends} (h : te σ H fun _ H1 => D.nx σ H1) : tDrop te D σ H := h
theorem w_sp {σ : L2.St} {H : Hp} {i n : Nat} {x : V} {E : XK} {Q : VK} (h : σ[i]? = some (some x)) (k : SpSp n [x] H Q E) : tCall (SpSp n) [] E (tCons (tVar i) tNil) σ H Q := ⟨x, h, k⟩
theorem st__law_spoilt (S : Env P w K mg base) (n : Nat) (ih : Cl P w K mg base (n + 1) "_law_spoilt" ["thing"] (SpSp n)) : Cl P w K mg base (n + 2) "_law_spoilt" ["thing"] (SpSp (n + 1)) := mk_cl S.fun__law_spoilt S.glo__law_spoilt sc__law_spoilt (fun _ _ _ _ _ _ us hl => match us, hl with | [_], _ => rfl) (SpSp.len) fun cdv A outer s H vs Q E hr h => by
  have nd := sc__law_spoilt.nd
  refine ⟨_, (pss_cons (ps_if (pt_val (pe_callB (r := rIsi K) (id := "isinstance") call_isi (by rfl) S.free_isinstance (by decide +kernel) (pa_cons (pv 0) (pa_cons (pe_bltn (v := V.ty "dict") (by rfl) S.free_dict (by decide +kernel) rfl) pa_nil)))) pss_dead pss_nil)
    (pss_cons (ps_if (pt_val (pe_callB (r := rIsiT K) (id := "isinstance") call_isiT (by rfl) S.free_isinstance (by decide +kernel) (pa_cons (pv 0) (pa_cons (pe_tup (pa_cons (pe_bltn (v := V.ty "list") (by rfl) S.free_list (by decide +kernel) rfl) (pa_cons (pe_bltn (v := V.ty "tuple") (by rfl) S.free_tuple (by decide +kernel) rfl) pa_nil))) pa_nil)))) (pss_one (ps_for (passes_of rfl) rfl (pi_anyK (K := K) rfl (pv 0)) (pg_name (i := 2) nd rfl (by first | exact Or.inl rfl | exact Or.inr rfl))
    (pss_one (ps_expr (pe_cl ih hr (Nat.le_refl _) pass_none (by rfl) (pa_cons (pv 2) pa_nil)))))) pss_nil)
    (pss_one (ps_if (pt_val (pe_callB (r := rIsi K) (id := "isinstance") call_isi (by rfl) S.free_isinstance (by decide +kernel) (pa_cons (pv 0) (pa_cons (pe_bltn (v := V.ty "list") (by rfl) S.free_list (by decide +kernel) rfl) pa_nil)))) (pss_one (ps_expr (pe_bmK (K := K) (r := rAppend) rfl PySem.F.plainAttrs_list PySem.F.slot_list_append PySem.F.type_list_append mt_append (pv 0) (pa_cons pe_str pa_nil)))) pss_nil)))), ?_⟩
  obtain ⟨v, d, as, rfl, ht, nd, dd, ld, hQ⟩ := h
  refine wp_if (wp_t (t_B (d_isDict (d_var rfl ht.dt) ld)) (Ex.refl H) fun H1 e1 => ?_)
  rw [if_neg (by decide)]
  refine wp_if (wp_t (t_B (d_isiT2 (d_var rfl (ht.ex e1).dt) (ty_of (lens_ins ld)) (row_kit d (lens_ins ld)))) (Ex.refl H1) fun H2 e2 => ?_)
  have e12 := e1.trans e2
  have ht2 := ht.ex e12
  clear ht
  cases ht2 with
  | non =>
    rw [if_neg (by decide)]
    refine wp_ifE (wp_t (t_B (d_isList (d_var rfl .non) rfl)) (Ex.refl H2) fun H3 e3 => ?_)
    rw [if_neg (by decide)]
    exact hQ H3 (keep_of (e12.trans e3)) (exdm (e12.trans e3)) .non
  | int i =>
    rw [if_neg (by intro z; cases z)]
    refine wp_ifE (wp_t (t_B (d_isList (d_var rfl (.int i)) rfl)) (Ex.refl H2) fun H3 e3 => ?_)
    rw [if_neg (by intro z; cases z)]
    exact hQ H3 (keep_of (e12.trans e3)) (exdm (e12.trans e3)) (.int i)
  | @lst a xs ds as' ha hx =>
    rw [if_pos (by rfl)]
    obtain ⟨na, nd'⟩ := List.nodup_cons.mp nd
    simp only [PyData.depth] at dd
    unfold lensD at ld
    obtain ⟨l1, l2⟩ := Bool.and_eq_true_iff.mp ld
    have l1 := of_decide_eq_true l1
    have xl := hx.dt.len
    refine Or.inl ⟨.ref a, rfl, a, rfl, ⟨xs, SqL.of ha⟩, ?_⟩
    refine for_items (rest := fun D => D.nx) (xs := xs) (fun σ' => ∃ y, σ' = [some (.ref a), none, y]) (fun i H' => SpLoop xs ds as' H2 i H' ∧ H' a = some (.lst xs)) (fun i H' x ⟨_, g⟩ hx' => ⟨xs, x, SqL.of g, hx'⟩) (fun i H' x H'' ⟨_, g⟩ y => ⟨y.1, fun _ => y.2 xs (SqL.of g)⟩) (fun i H' ⟨_, g⟩ hl => ⟨xs, SqL.of g, hl⟩) ⟨none, rfl⟩ ⟨⟨⟨[], xs, [], ds, [], as', rfl, rfl, rfl, rfl, .nil, hx⟩, fun _ _ _ h => h, Dm.refl _⟩, ha⟩ ?_ ?_
    · rintro i σ' H' x hxi ⟨y, rfl⟩ ⟨g1, g2⟩ N hN
      obtain ⟨d', bs, dm', tr', nd2, sub, nx⟩ := g1.step nd' hxi
      refine wp_drop (w_sp rfl ⟨x, d', bs, rfl, tr', nd2, by have := depth_mem dm'; omega, lens_mem l2 dm', fun H3 kb dm sl => ?_⟩)
      exact hN _ H3 ⟨_, rfl⟩ ⟨nx H3 kb dm sl, kb a _ (fun m => na (sub a m)) g2⟩
    · rintro σ' H' ⟨y, rfl⟩ ⟨g1, g2⟩
      have sa := g1.done
      refine wp_ifE (wp_t (t_B (d_isi (d := .list (lateDs ds)) (d_var rfl (.lst g2 sa.dt)) (ty_of rfl) (kit_ty kl3))) (Ex.refl H') fun H3 e3 => ?_)
      rw [if_pos rfl]
      have g3 := e3 _ _ g2
      refine wp_drop ⟨.ref a, rfl, Or.inl ⟨rfl, _, sq_of g3⟩, a, xs, .str "late9", rfl, rfl, g3, sz_lt (by omega), ?_⟩
      have kp : KeepBut (a :: as') H H3 := kb_trans (keep_of e12) (kb_trans (kb_sub g1.keep fun z hz => List.mem_cons_of_mem _ hz) (keep_of e3))
      refine hQ _ (fun b o n h => ?_) (fun b h => ?_) (.lst upd_same (SlAll.keep (cs := [a]) (fun b o n h => ?_) (fun c hc => ?_) sa fun z hz hb => ?_))
      · rw [upd_ne fun q => n (by rw [q]; exact List.mem_cons_self ..)]
        exact kp b o n h
      · by_cases q : b = a
        · rw [q, upd_same] at h; cases h
        · rw [upd_ne q] at h
          exact exdm e12 b (g1.dm b (exdm e3 b h))
      · rw [upd_ne fun q => n (by rw [q]; exact List.mem_singleton.mpr rfl)]
        exact e3 b o h
      · rw [List.mem_singleton.mp hc]
        exact ⟨xs, g2⟩
      · rw [List.mem_singleton.mp hb] at hz
        exact na hz
  | @tup a xs ds as ha hx =>
    rw [if_pos (by rfl)]
    simp only [PyData.depth] at dd
    unfold lensD at ld
    obtain ⟨l1, l2⟩ := Bool.and_eq_true_iff.mp ld
    refine Or.inr ⟨.ref a, rfl, a, rfl, ⟨xs, SqT.of ha⟩, ?_⟩
    have nal : a ∉ as := fun m => by
      obtain ⟨ys, z⟩ := hx.has a m
      rw [ha] at z
      cases z
    refine for_items (rest := fun D => D.nx) (xs := xs) (fun σ' => ∃ y, σ' = [some (.ref a), none, y]) (fun i H' => SpLoop xs ds as H2 i H' ∧ H' a = some (.tup xs)) (fun i H' x ⟨_, g⟩ hx' => ⟨xs, x, SqT.of g, hx'⟩) (fun i H' x H'' ⟨_, g⟩ y => ⟨y.1, fun _ => y.2 xs (SqT.of g)⟩) (fun i H' ⟨_, g⟩ hl => ⟨xs, SqT.of g, hl⟩) ⟨none, rfl⟩ ⟨⟨⟨[], xs, [], ds, [], as, rfl, rfl, rfl, rfl, .nil, hx⟩, fun _ _ _ h => h, Dm.refl _⟩, ha⟩ ?_ ?_
    · rintro i σ' H' x hxi ⟨y, rfl⟩ ⟨g1, g2⟩ N hN
      obtain ⟨d', bs, dm', tr', nd2, sub, nx⟩ := g1.step nd hxi
      refine wp_drop (w_sp rfl ⟨x, d', bs, rfl, tr', nd2, by have := depth_mem dm'; omega, lens_mem l2 dm', fun H3 kb dm sl => ?_⟩)
      exact hN _ H3 ⟨_, rfl⟩ ⟨nx H3 kb dm sl, kb a _ (fun m => nal (sub a m)) g2⟩
    · rintro σ' H' ⟨y, rfl⟩ ⟨g1, g2⟩
      have sa := g1.done
      refine wp_ifE (wp_t (t_B (d_isi (d := .tuple (lateDs ds)) (d_var rfl (.tup g2 sa.dt)) (ty_of rfl) (kit_ty kl4))) (Ex.refl H') fun H3 e3 => ?_)
      rw [if_neg (by decide)]
      exact hQ H3 (kb_trans (keep_of e12) (kb_trans g1.keep (keep_of e3))) (fun b h => exdm e12 b (g1.dm b (exdm e3 b h))) (.tup (e3 _ _ g2) (SlAll.keep (cs := []) (fun b o _ h => e3 b o h) (fun c hc => nomatch hc) sa fun z _ hb => nomatch hb))
theorem cl__law_spoilt (S : Env P w K mg base) : ∀ n, Cl P w K mg base (n + 1) "_law_spoilt" ["thing"] (SpSp n)
  | 0 => mk_cl S.fun__law_spoilt S.glo__law_spoilt sc__law_spoilt (fun _ _ _ _ _ _ us hl => match us, hl with | [_], _ => rfl) SpSp.len fun cdv A outer s H vs Q E hr h => by
    obtain ⟨v, d, as, _, _, _, z, _⟩ := h
    exact absurd z (Nat.not_lt_zero _)
  | n + 1 => st__law_spoilt S n (cl__law_spoilt S n)
end
end K10
namespace K10
open PySem PySem.Spec PyProof.Rows L2 Evl WB
section
variable {P : Program} {w : World} {K : PySem.W.Frag} {mg : Str → Option Value} {base : Heap}
abbrev late : PyData := .str "late9"
theorem wk_anyL {σ : L2.St} {F : Hp} {tl : TE} {ds : List PyData} (h : EvD tl σ F (.list ds)) : WkD (iAny K tl) σ F ds := fun H1 e R q => Or.inl (wk_list h H1 e R q)
theorem wk_anyT {σ : L2.St} {F : Hp} {tl : TE} {ds : List PyData} (h : EvD tl σ F (.tuple ds)) : WkD (iAny K tl) σ F ds := fun H1 e R q => Or.inr (wk_tup h H1 e R q)
/-- what is looked at: a part that was spoilt, or the thing more -/
def OnceE (n : Nat) (e : PyData) : Prop := (∃ d, e = lateD d ∧ lensD d = true ∧ d.depth < n ∧ d.depth ≤ 50) ∨ (e = late ∧ 0 < n)
theorem plainDs_app : ∀ (xs ys : List PyData), plainDs (xs ++ ys) = (plainDs xs && plainDs ys)
  | [], ys => by show plainDs ys = (true && plainDs ys); rw [Bool.true_and]
  | x :: xs, ys => by
    show (plainD x && plainDs (xs ++ ys)) = ((plainD x && plainDs xs) && plainDs ys)
    rw [plainDs_app xs ys, Bool.and_assoc]
theorem lay_app : ∀ (xs ys : List PyData), PyData.canLayAll0 (xs ++ ys) = (PyData.canLayAll0 xs && PyData.canLayAll0 ys)
  | [], ys => by simp [PyData.canLayAll0]
  | x :: xs, ys => by simp [PyData.canLayAll0, lay_app xs ys, Bool.and_assoc]
theorem depth_app : ∀ (xs ys : List PyData), PyData.depthAll (xs ++ ys) = max (PyData.depthAll xs) (PyData.depthAll ys)
  | [], ys => by simp [PyData.depthAll]
  | x :: xs, ys => by simp [PyData.depthAll, depth_app xs ys, Nat.max_assoc]
mutual
theorem late_lay : ∀ d : PyData, lensD d = true → (lateD d).canLay0 = true
  | .none, _ => by simp [lateD, PyData.canLay0]
  | .int _, _ => by simp [lateD, PyData.canLay0]
  | .list ds, h => by
    unfold lensD at h
    unfold lateD
    have z := lates_lay ds (Bool.and_eq_true_iff.mp h).2
    simp only [PyData.canLay0]
    rw [lay_app, z]
    decide +kernel
  | .tuple ds, h => by
    unfold lensD at h
    unfold lateD
    simp only [PyData.canLay0]
    exact lates_lay ds (Bool.and_eq_true_iff.mp h).2
  | .bool _, h => by cases h
  | .str _, h => by cases h
  | .dict _, h => by cases h
theorem lates_lay : ∀ ds : List PyData, lensDs ds = true → PyData.canLayAll0 (lateDs ds) = true
  | [], _ => by simp [lateDs, PyData.canLayAll0]
  | d :: ds, h => by
    unfold lensDs at h
    obtain ⟨h1, h2⟩ := Bool.and_eq_true_iff.mp h
    unfold lateDs
    simp only [PyData.canLayAll0]
    rw [late_lay d h1, lates_lay ds h2]
    rfl
end
mutual
theorem late_depth : ∀ d : PyData, (lateD d).depth = d.depth
  | .none => rfl
  | .int _ => rfl
  | .list ds => by
    unfold lateD
    simp only [PyData.depth]
    rw [depth_app, lates_depth ds]
    simp [PyData.depthAll, PyData.depth]
  | .tuple ds => by
    unfold lateD
    simp only [PyData.depth]
    rw [lates_depth ds]
  | .bool _ => rfl
  | .str _ => rfl
  | .dict _ => rfl
theorem lates_depth : ∀ ds : List PyData, PyData.depthAll (lateDs ds) = PyData.depthAll ds
  | [] => rfl
  | d :: ds => by
    unfold lateDs
    simp only [PyData.depthAll]
    rw [late_depth d, lates_depth ds]
end
theorem late_count : ∀ ds : List PyData, lensDs ds = true → (lateDs ds).countP (fun z => PyData.eqv z late) = 0
  | [], _ => rfl
  | d :: ds, h => by
    unfold lensDs at h
    obtain ⟨h1, h2⟩ := Bool.and_eq_true_iff.mp h
    unfold lateDs
    rw [List.countP_cons, late_count ds h2]
    have e : PyData.eqv (lateD d) late = false := by
      cases d with
      | none => simp [lateD, late, PyData.eqv]
      | int i => simp [lateD, late, PyData.eqv]
      | list l => simp [lateD, late, PyData.eqv]
      | tuple l => simp [lateD, late, PyData.eqv]
      | _ => cases h1
    rw [e]
    rfl
mutual
theorem late_plain : ∀ d : PyData, lensD d = true → plainD (lateD d) = true
  | .none, _ => rfl
  | .int _, _ => rfl
  | .list ds, h => by
    unfold lensD at h
    unfold lateD plainD
    have z := lates_plain ds (Bool.and_eq_true_iff.mp h).2
    rw [plainDs_app, z]
    rfl
  | .tuple ds, h => by
    unfold lensD at h
    unfold lateD plainD
    exact lates_plain ds (Bool.and_eq_true_iff.mp h).2
  | .bool _, h => by cases h
  | .str _, h => by cases h
  | .dict _, h => by cases h
theorem lates_plain : ∀ ds : List PyData, lensDs ds = true → plainDs (lateDs ds) = true
  | [], _ => rfl
  | d :: ds, h => by
    unfold lensDs at h
    obtain ⟨h1, h2⟩ := Bool.and_eq_true_iff.mp h
    unfold lateDs plainDs
    rw [late_plain d h1, lates_plain ds h2]
    rfl
end
def c_once (n : Nat) (ds : List PyData) (r : PyData) : Prop := ∃ e, ds = [e] ∧ OnceE n e ∧ r = .bool true
abbrev SpOn (n : Nat) : Sp := SpD (c_once n)
theorem SpOn_len {n : Nat} (vs : List V) (H : Hp) (Q : VK) (E : XK) (h : SpOn n vs H Q E) : vs.length = 1 := SpD.len (fun _ _ ⟨_, e, _⟩ => e ▸ rfl) vs H Q E h
theorem ks1 : kitB "str" "dict" = some false := by decide +kernel
theorem lates_mem : ∀ {ds : List PyData} {e : PyData}, e ∈ lateDs ds → ∃ d ∈ ds, e = lateD d
  | [], _, h => by cases h
  | d :: ds, e, h => by
    unfold lateDs at h
    rcases List.mem_cons.mp h with q | q
    · exact ⟨d, List.mem_cons_self .., q⟩
    · obtain ⟨d', h1, h2⟩ := lates_mem q
      exact ⟨d', List.mem_cons_of_mem _ h1, h2⟩
theorem lates_len : ∀ ds : List PyData, (lateDs ds).length = ds.length
  | [] => rfl
  | d :: ds => by
    unfold lateDs
    rw [List.length_cons, List.length_cons, lates_len ds]
theorem st__law_is_once (S : Env P w K mg base) (n : Nat) (ih : Cl P w K mg base (n + 1) "_law_is_once" ["thing"] (SpOn n)) : Cl P w K mg base (n + 2) "_law_is_once" ["thing"] (SpOn (n + 1)) := mk_cl S.fun__law_is_once S.glo__law_is_once sc__law_is_once (fun _ _ _ _ _ _ us hl => match us, hl with | [_], _ => rfl) (SpOn_len) fun cdv A outer s H vs Q E hr h => by
  have nd := sc__law_is_once.nd
  refine ⟨_, (pss_cons (ps_if (pt_val (pe_callB (r := rIsi K) (id := "isinstance") call_isi (by rfl) S.free_isinstance (by decide +kernel) (pa_cons (pv 0) (pa_cons (pe_bltn (v := V.ty "dict") (by rfl) S.free_dict (by decide +kernel) rfl) pa_nil)))) pss_dead pss_nil)
    (pss_cons (ps_if (pt_val (pe_callB (r := rIsiT K) (id := "isinstance") call_isiT (by rfl) S.free_isinstance (by decide +kernel) (pa_cons (pv 0) (pa_cons (pe_tup (pa_cons (pe_bltn (v := V.ty "list") (by rfl) S.free_list (by decide +kernel) rfl) (pa_cons (pe_bltn (v := V.ty "tuple") (by rfl) S.free_tuple (by decide +kernel) rfl) pa_nil))) pa_nil)))) (pss_cons (ps_set (i := 2) nd rfl (by first | exact Or.inl rfl | exact Or.inr rfl) (pe_callTy (r := rIntQ) (T := "int") call_int1 (by rfl) S.free_int (by decide +kernel) (pa_cons (pe_callB (r := rIsi K) (id := "isinstance") call_isi (by rfl) S.free_isinstance (by decide +kernel) (pa_cons (pv 0) (pa_cons (pe_bltn (v := V.ty "list") (by rfl) S.free_list (by decide +kernel) rfl) pa_nil))) pa_nil)))
    (pss_one (ps_ret (pe_and (pe_cmpR op_eq (pe_bmK (K := K) (r := rCountD K) rfl PySem.F.plainAttrs_list PySem.F.slot_list_count PySem.F.type_list_count (mt_countD (u65 hr)) (pe_callTy (r := rListQ K) (T := "list") call_list_of (by rfl) S.free_list (by decide +kernel) (pa_cons (pv 0) pa_nil)) (pa_cons pe_str pa_nil)) (pv 2) (nomark _)) (pe_one (pe_callB (r := rAll K) (id := "all") (cr_all rfl) (by rfl) S.free_all (by decide +kernel) (pa_cons (pe_lc (own := [("part", 3)]) rfl nd (pi_anyK (K := K) rfl (pv 0)) (blkOk_by (N := ["thing", "key", "many", "part"]) (sc := defScope s__law_is_once) (by decide +kernel)) (fun _ _ _ _ _ => (pg_name (i := 3) nd rfl (by first | exact Or.inl rfl | exact Or.inr rfl))) (fun _ _ _ _ _ => pts_nil) (fun _ _ _ _ _ => (pe_cl ih hr (Nat.le_refl _) pass_none (by rfl) (pa_cons (pv 3) pa_nil)))) pa_nil))))))) pss_nil)
    (pss_one (ps_ret pe_bl)))), ?_⟩
  obtain ⟨F0, ds, r, e0, hd, ⟨e, rfl, he, rfl⟩, hQ⟩ := h
  obtain ⟨x, rfl, hx⟩ := da1_ hd
  have kn := Kn.start e0
  rcases he with ⟨d, rfl, ld, dd, d50⟩ | ⟨rfl, n0⟩
  · cases d with
    | none => exact q_ifF kn (t_B (d_isi (d_var rfl hx) (ty_of rfl) (kit_ty kq1))) rfl fun F1 H1 s1 => q_ifF s1.kn (t_B (d_isiT2 (d_var rfl (hx.ex s1.ff)) (ty_of rfl) (row_kit _ rfl))) rfl fun F2 H2 s2 => k_fin (Q := Q) (r := .bool true) hQ s2.kn d_bl
    | int i => exact q_ifF kn (t_B (d_isi (d_var rfl hx) (ty_of rfl) (kit_ty kq2))) rfl fun F1 H1 s1 => q_ifF s1.kn (t_B (d_isiT2 (d_var rfl (hx.ex s1.ff)) (ty_of rfl) (row_kit _ rfl))) rfl fun F2 H2 s2 => k_fin (Q := Q) (r := .bool true) hQ s2.kn d_bl
    | list ds =>
      replace hx : Dt F0 x (.list (lateDs ds ++ [late])) := hx
      simp only [PyData.depth] at dd d50
      unfold lensD at ld
      obtain ⟨l1, l2⟩ := Bool.and_eq_true_iff.mp ld
      have l1 := of_decide_eq_true l1
      refine q_ifF kn (t_B (d_isi (d_var rfl hx) (ty_of rfl) (kit_ty kq3))) rfl fun F1 H1 s1 => ?_
      refine q_ifT s1.kn (t_B (d_isiT2 (d_var rfl (hx.ex s1.ff)) (ty_of rfl) (row_kit _ rfl))) rfl fun F2 H2 s2 => ?_
      have t2 := s1.trans s2
      refine q_asg s2.kn (d_intB (d_isi (d_var rfl (hx.ex t2.ff)) (ty_of rfl) (kit_ty kl3))) fun v F3 H3 s3 hv => ?_
      have hx3 := (hx.ex t2.ff).ex s3.ff
      refine k_fin (Q := Q) hQ s3.kn ((d_and (d_eq (d_cntD (d_listL (d_var rfl hx3)) d_str rfl ?_ (shaped_of (by decide +kernel) (by decide +kernel)) (shaped_of ?_ ?_)) (d_var rfl hv)) fun _ => d_allL (bs := (lateDs ds ++ [late]).map fun _ => true) (d_lcn (wk_anyL (d_var rfl hx3)) ?_ (by simp) fun i d r v F'' hi hr e1 hd' => ?_)).is ?_)
      · rw [plainDs_app, lates_plain ds l2]
        rfl
      · simp only [PyData.canLay0]
        rw [lay_app, lates_lay ds l2]
        decide +kernel
      · simp only [PyData.depth]
        rw [depth_app, lates_depth ds]
        simp only [PyData.depthAll, PyData.depth]
        omega
      · rw [List.length_append, lates_len]
        show ds.length + 1 ≤ _
        omega
      · rw [List.map_map] at hr
        obtain ⟨_, _, rfl⟩ := map_at hr
        refine d_call (da_cons (d_var rfl hd') da_nil) ⟨_, rfl, ?_, rfl⟩
        rcases List.mem_append.mp (List.mem_of_getElem? hi) with m | m
        · obtain ⟨d', m', rfl⟩ := lates_mem m
          exact .inl ⟨d', rfl, lens_mem l2 m', by have := depth_mem m'; omega, by have := depth_mem m'; omega⟩
        · rw [List.mem_singleton.mp m]
          exact .inr ⟨rfl, by omega⟩
      · rw [all_true, List.countP_append, late_count ds l2]
        exact congrArg PyData.bool (by decide +kernel)
    | tuple ds =>
      replace hx : Dt F0 x (.tuple (lateDs ds)) := hx
      simp only [PyData.depth] at dd d50
      unfold lensD at ld
      obtain ⟨l1, l2⟩ := Bool.and_eq_true_iff.mp ld
      have l1 := of_decide_eq_true l1
      refine q_ifF kn (t_B (d_isi (d_var rfl hx) (ty_of rfl) (kit_ty kq4))) rfl fun F1 H1 s1 => ?_
      refine q_ifT s1.kn (t_B (d_isiT2 (d_var rfl (hx.ex s1.ff)) (ty_of rfl) (row_kit _ rfl))) rfl fun F2 H2 s2 => ?_
      have t2 := s1.trans s2
      refine q_asg s2.kn (d_intB (d_isi (d_var rfl (hx.ex t2.ff)) (ty_of rfl) (kit_ty kl4))) fun v F3 H3 s3 hv => ?_
      have hx3 := (hx.ex t2.ff).ex s3.ff
      refine k_fin (Q := Q) hQ s3.kn ((d_and (d_eq (d_cntD (d_listT (d_var rfl hx3)) d_str rfl ?_ (shaped_of (by decide +kernel) (by decide +kernel)) (shaped_of ?_ ?_)) (d_var rfl hv)) fun _ => d_allL (bs := (lateDs ds).map fun _ => true) (d_lcn (wk_anyT (d_var rfl hx3)) ?_ (by simp) fun i d r v F'' hi hr e1 hd' => ?_)).is ?_)
      · exact lates_plain ds l2
      · simp only [PyData.canLay0]
        exact lates_lay ds l2
      · simp only [PyData.depth]
        rw [lates_depth ds]
        omega
      · rw [lates_len]
        omega
      · rw [List.map_map] at hr
        obtain ⟨_, _, rfl⟩ := map_at hr
        refine d_call (da_cons (d_var rfl hd') da_nil) ⟨_, rfl, ?_, rfl⟩
        obtain ⟨d', m', rfl⟩ := lates_mem (List.mem_of_getElem? hi)
        exact .inl ⟨d', rfl, lens_mem l2 m', by have := depth_mem m'; omega, by have := depth_mem m'; omega⟩
      · rw [all_true, late_count ds l2]
        exact congrArg PyData.bool (by decide +kernel)
    | _ => cases ld
  · exact q_ifF kn (t_B (d_isi (d_var rfl hx) (ty_of rfl) (kit_ty ks1))) rfl fun F1 H1 s1 => q_ifF s1.kn (t_B (d_isiT2 (d_var rfl (hx.ex s1.ff)) (ty_of rfl) (row_kit _ rfl))) rfl fun F2 H2 s2 => k_fin (Q := Q) (r := .bool true) hQ s2.kn d_bl
theorem cl__law_is_once (S : Env P w K mg base) : ∀ n, Cl P w K mg base (n + 1) "_law_is_once" ["thing"] (SpOn n)
  | 0 => mk_cl S.fun__law_is_once S.glo__law_is_once sc__law_is_once (fun _ _ _ _ _ _ us hl => match us, hl with | [_], _ => rfl) SpOn_len fun cdv A outer s H vs Q E hr h => by
    obtain ⟨F, ds, r, _, _, ⟨e, _, z, _⟩, _⟩ := h
    rcases z with ⟨d, _, _, z, _⟩ | ⟨_, z⟩
    · exact absurd z (Nat.not_lt_zero _)
    · exact absurd z (Nat.not_lt_zero _)
  | n + 1 => st__law_is_once S n (cl__law_is_once S n)
/-- the promise of both: a tree of one's own, nothing else is written -/
def SpAp : Sp := fun vs H Q _ => ∃ F v d as, vs = [v] ∧ Ex F H ∧ (∀ a ∈ as, F a = none) ∧ Tr H v d as ∧ as.Nodup ∧ d.depth < 6 ∧ lensD d = true ∧ ∀ H', KeepBut as H H' → Dm H H' → Q (.bl true) H'
theorem SpAp_len (vs : List V) (H : Hp) (Q : VK) (E : XK) (h : SpAp vs H Q E) : vs.length = 1 := by
  obtain ⟨F, v, d, as, rfl, _⟩ := h
  rfl
theorem wp_dropQ {σ : L2.St} {H : Hp} {te : TE} {D : Ends} {rest : TS} (h : te σ H fun _ H1 => rest D σ H1) : tSeq (tDrop te) rest D σ H := h
theorem cl6_spoilt (S : Env P w K mg base) : Cl P w K mg base 7 "_law_spoilt" ["thing"] (SpSp 6) := cl__law_spoilt S 6
theorem cl6_once (S : Env P w K mg base) : Cl P w K mg base 7 "_law_is_once" ["thing"] (SpOn 6) := cl__law_is_once S 6
theorem cl__law_apart (S : Env P w K mg base) : Cl P w K mg base 8 "_law_apart" ["thing"] SpAp := mk_cl S.fun__law_apart S.glo__law_apart sc__law_apart (fun _ _ _ _ _ _ us hl => match us, hl with | [_], _ => rfl) (SpAp_len) fun cdv A outer s H vs Q E hr h => by
  have nd := sc__law_apart.nd
  refine ⟨_, (pss_cons (ps_expr (pe_cl (cl6_spoilt S) hr (by decide) pass_none (by rfl) (pa_cons (pv 0) pa_nil)))
    (pss_one (ps_ret (pe_cl (cl6_once S) hr (by decide) pass_none (by rfl) (pa_cons (pv 0) pa_nil))))), ?_⟩
  obtain ⟨F, v, d, as, rfl, e0, fa, ht, nd, dd, ld, hQ⟩ := h
  refine wp_dropQ (w_sp rfl ⟨v, d, as, rfl, ht, nd, dd, ld, fun H1 kb dm sl => ?_⟩)
  refine wp_ret ?_
  refine d_call (F := H1) (da_cons (d_var rfl sl.dt) da_nil) ⟨_, rfl, .inl ⟨d, rfl, ld, dd, by omega⟩, rfl⟩ H1 (Ex.refl _) _ fun u H2 e2 hu => ?_
  cases hu.bool_
  exact hQ H2 (kb_trans kb (keep_of e2)) (fun b h => dm b (exdm e2 b h))
end
end K10
namespace K10
open PySem PySem.Spec PyProof.Rows L2 Evl WB
section
variable {P : Program} {w : World} {K : PySem.W.Frag} {mg : Str → Option Value} {base : Heap}
def c_eo (ds : List PyData) (r : PyData) : Prop := ∃ ns : List Nat, ds = [natsD ns] ∧ ns.length ≤ 20000 ∧ r = natsD (eo ns)
theorem cl__law_each_once (S : Env P w K mg base) : Cl P w K mg base 1 "_law_each_once" ["things"] (SpD c_eo) := mk_cl S.fun__law_each_once S.glo__law_each_once sc__law_each_once (fun _ _ _ _ _ _ us hl => match us, hl with | [_], _ => rfl) (SpD.len fun _ _ ⟨_, e, _⟩ => e ▸ rfl) fun cdv A outer s H vs Q E hr h => by
  have nd := sc__law_each_once.nd
  refine ⟨_, (pss_cons (ps_set (i := 1) nd rfl (by first | exact Or.inl rfl | exact Or.inr rfl) (pe_lst pa_nil))
    (pss_cons (ps_for (passes_of rfl) rfl (pi_listK (K := K) rfl (pv 0)) (pg_name (i := 2) nd rfl (by first | exact Or.inl rfl | exact Or.inr rfl))
    (pss_one (ps_if (pt_cmpR (r := rIn K true) op_notIn_seq (pv 2) (pv 1) (by rfl)) (pss_one (ps_expr (pe_bmK (K := K) (r := rAppend) rfl PySem.F.plainAttrs_list PySem.F.slot_list_append PySem.F.type_list_append mt_append (pv 1) (pa_cons (pv 2) pa_nil)))) pss_nil)))
    (pss_one (ps_ret (pv 1))))), ?_⟩
  obtain ⟨F0, ds, r, e0, hd, hc, hQ⟩ := h
  have kn := Kn.start e0
  obtain ⟨ns, rfl, hn, rfl⟩ := hc
  obtain ⟨x, rfl, hx⟩ := da1_ hd
  refine q_newN kn da_nil (by simp) fun ll xs F1 H1 s1 hF hl1 hl hxs => ?_
  cases hxs.nil_
  have h0 : H ll = none := hl1
  refine q_for s1.kn (wk_list (d_var rfl (hx.ex s1.ff))) (fun i σ' F' H' => (∃ y2, σ' = [some x, some (.ref ll), y2]) ∧ H' ll = some (.lst (natsV ((ns.take i).foldl eoS []))) ∧ F' ll = none) ?_ ?_ ?_ ?_
  · intro F2 H2 s2
    exact ⟨⟨_, rfl⟩, s2.ex _ _ hl, s2.fr _ _ hl hF⟩
  · rintro i σ' F' H' H2 ⟨hσ, g1, g2⟩ kn' e
    have s := kn'.step (H1 := H2) e
    exact ⟨hσ, e _ _ g1, s.fr _ _ g1 g2⟩
  · rintro i d y σ' F' H' hi kn' eF hd ⟨⟨y2, rfl⟩, g1, g2⟩ N hN
    obtain ⟨n, hni, rfl⟩ := map_at hi
    cases hd.int_
    have il := (List.getElem?_eq_some_iff.mp hni).1
    have tk : (ns.take (i + 1)).foldl eoS [] = eoS ((ns.take i).foldl eoS []) n := by rw [take_snoc hni, List.foldl_append]; rfl
    have al := eo_len (ns.take i) []
    rw [List.length_take] at al
    generalize (ns.take i).foldl eoS [] = acc at tk g1 al
    refine wp_ifE ((t_val (d_notInN (K := K) (d_var rfl (.int _)) (d_var rfl (nats_tr g1).dt))) H' (Ex.refl _) _ fun H2 e2 => ?_)
    have s2 := kn'.step e2
    by_cases q : n ∈ acc
    · have hq : (!decide (n ∈ acc)) = false := by rw [decide_eq_true q]; rfl
      rw [hq, if_neg (by decide)]
      refine wp_next ?_
      refine hN _ _ H2 s2.kn s2.ff ⟨⟨_, rfl⟩, ?_, s2.fr _ _ g1 g2⟩
      rw [tk]
      unfold eoS
      rw [if_pos q]
      exact e2 _ _ g1
    · have hq : (!decide (n ∈ acc)) = true := by rw [decide_eq_false q]; rfl
      rw [hq, if_pos rfl]
      refine k_app s2.kn (e2 _ _ g1) (s2.fr _ _ g1 g2) h0 (ev_var rfl) (d := .int (n : Nat)) (d_var rfl (.int _)) (by unfold natsV; rw [List.length_map]; simp at al; omega) fun v5 F5 H5 k5 e5 n5 hv5 l5 o5 fr5 => ?_
      cases hv5.int_
      refine hN _ F5 H5 k5 (s2.ff.trans e5) ⟨⟨_, rfl⟩, ?_, n5⟩
      rw [tk, l5]
      unfold eoS
      rw [if_neg q]
      unfold natsV
      rw [List.map_append]
      rfl
  · rintro σ' F' H' kn' eF ⟨⟨y2, rfl⟩, g1, g2⟩
    rw [List.length_map, List.take_length] at g1
    exact k_finL (hQ := hQ) kn' g1 g2 h0 (nats_all _).dt (ev_var rfl)
theorem t_val' {σ : L2.St} {F : Hp} {te : TE} {b : Bool} (h : EvD te σ F (.bool b)) : EvT (tB te) σ F b := t_B h
theorem srL_le {rs : List Rule} (b : BkOk rs) (s : WStep) : srL rs s ≤ 1000 := by
  unfold srL
  cases q : rs[s.2.1]? with
  | none => exact Nat.zero_le _
  | some q' => exact (b.at_ q).sl _
def c_needs (ds : List PyData) (r : PyData) : Prop := ∃ m : WayM, ds = [rulesD m.rs, .str m.z, stepsD m.ss] ∧ CaseB m ∧ r = hungD m
theorem cl__law_b_needs (S : Env P w K mg base) : Cl P w K mg base 3 "_law_b_needs" ["rules", "word", "steps"] (SpD c_needs) := mk_cl S.fun__law_b_needs S.glo__law_b_needs sc__law_b_needs (fun _ _ _ _ _ _ us hl => match us, hl with | [_, _, _], _ => rfl) (SpD.len fun _ _ ⟨_, e, _⟩ => e ▸ rfl) fun cdv A outer s H vs Q E hr h => by
  have nd := sc__law_b_needs.nd
  refine ⟨_, (pss_cons (ps_par (i := 3) (j := 4) (by rfl) nd rfl rfl (by decide) rfl rfl (pa_cons (pe_ix (r := rIxT K) ix_tup (pe_cl (cl__law_w_boxes S) hr (by decide) pass_none (by rfl) (pa_cons (pv 0) (pa_cons (pv 1) (pa_cons (pv 2) pa_nil)))) pe_int (fun _ _ => rfl)) (pa_cons (pe_lst pa_nil) pa_nil)) (by rfl))
    (pss_cons (ps_for (passes_of rfl) rfl (pi_listK (K := K) rfl (pv 3)) (pg_name (i := 5) nd rfl (by first | exact Or.inl rfl | exact Or.inr rfl))
    (pss_cons (ps_set (i := 6) nd rfl (by first | exact Or.inl rfl | exact Or.inr rfl) (pe_slice (r := rSlL K) sl_list (pv 3) po_none (po_some (pe_callB (r := rLenQ K) (id := "len") call_len_seq (by rfl) S.free_len (by decide +kernel) (pa_cons (pv 4) pa_nil)))))
    (pss_cons (ps_setLc (i := 10) (own := [("i", 7), ("other", 8)]) rfl nd rfl rfl (sw_true rfl rfl rfl (by decide +kernel)) (pi_enumK (K := K) rfl rfl S.free_enumerate (pa_cons (pv 6) pa_nil)) (blkOk_by (N := ["rules", "word", "steps", "boxes", "found", "box", "ahead", "i", "other", "wire", "some"]) (sc := defScope s__law_b_needs) (by decide +kernel)) (fun _ _ _ _ _ => (pg_tupK (K := K) (n := 2) rfl rfl (pgs_cons (pg_name (i := 7) nd rfl (by first | exact Or.inl rfl | exact Or.inr rfl)) (pgs_cons (pg_name (i := 8) nd rfl (by first | exact Or.inl rfl | exact Or.inr rfl)) pgs_nil)))) (fun _ _ _ _ _ => pts_one (pt_val (pe_callB (r := rAny K) (id := "any") (cr_any rfl) (by rfl) S.free_any (by decide +kernel) (pa_cons (pe_lc (own := [("wire", 9)]) rfl nd (pi_listK (K := K) rfl (pe_ix (r := rIxT K) ix_tup (pv 5) pe_int (fun _ _ => rfl))) (blkOk_by (N := ["rules", "word", "steps", "boxes", "found", "box", "ahead", "i", "other", "wire", "some"]) (by kernel_rfl)) (fun _ _ _ _ _ => (pg_name (i := 9) nd rfl (by first | exact Or.inl rfl | exact Or.inr rfl))) (fun _ _ _ _ _ => pts_nil) (fun _ _ _ _ _ => (pe_cmpR (r := rIn K false) op_in_seq (pv 9) (pe_ix (r := rIxT K) ix_tup (pv 8) pe_int (fun _ _ => rfl)) (by rfl)))) pa_nil)))) (fun _ _ _ _ _ => (pv 7)))
    (pss_cons (ps_for (passes_of rfl) rfl (pi_listK (K := K) rfl (pe_callTy (r := rListQ K) (T := "list") call_list_of (by rfl) S.free_list (by decide +kernel) (pa_cons (pv 10) pa_nil))) (pg_name (i := 7) nd rfl (by first | exact Or.inl rfl | exact Or.inr rfl))
    (pss_one (ps_set (i := 10) nd rfl (by first | exact Or.inl rfl | exact Or.inr rfl) (pe_op op_cat (pv 10) (pe_ix (r := rIxL K) ix_list (pv 4) (pv 7) (fun _ _ => rfl))))))
    (pss_one (ps_expr (pe_bmK (K := K) (r := rAppend) rfl PySem.F.plainAttrs_list PySem.F.slot_list_append PySem.F.type_list_append mt_append (pv 4) (pa_cons (pe_callB (r := rSorted K) (id := "sorted") cr_sorted (by rfl) S.free_sorted (by decide +kernel) (pa_cons (pe_cl (cl__law_each_once S) hr (by decide) pass_none (by rfl) (pa_cons (pv 10) pa_nil)) pa_nil)) pa_nil))))))))
    (pss_one (ps_ret (pv 4))))), ?_⟩
  obtain ⟨F0, ds, r, e0, hd, hc, hQ⟩ := h
  have kn := Kn.start e0
  obtain ⟨m, rfl, ok, rfl⟩ := hc
  obtain ⟨x, y, u, rfl, hx, hy, hu⟩ := da3_ hd
  have zl := ok.zl
  have sl := ok.sl
  have okm := ok.ok
  have ok1 : ∀ s' ∈ m.ss, ∃ q, m.rs[s'.2.1]? = some q := fun s' hs' => by
    obtain ⟨k, hk⟩ := List.getElem?_of_mem hs'
    exact wyc_q ok.c hk
  refine wp_par (wp_cons (k_ev kn (d_ixT (d_call (c := c_boxes) (da_cons (d_var rfl hx) (da_cons (d_var rfl hy) (da_cons (d_var rfl hu) da_nil))) ⟨m.rs, m.z, m.ss, rfl, ok.b.ok, ok1, by omega, by omega, rfl⟩) d_int (atI_nat (j := 0) rfl)) _ fun vb F1 H1 s1 hvb => wp_cons (wp_lst (wp_nil ⟨by show 0 ≤ sizeLine; decide, fun lf hlf => wp_nil ⟨vb, .ref lf, rfl, ?_⟩⟩))))
  obtain ⟨kn2, F1l⟩ := kn_own (o := .lst []) s1.kn hlf
  have h0 : H lf = none := s1.hm.d lf hlf
  have hl2 : upd H1 lf (.lst []) lf = some (.lst []) := upd_same
  generalize upd H1 lf (.lst []) = H2 at kn2 hl2
  have bl : ((boxesN m.rs (row0 m.z) m.ss).map bxD).length = m.ss.length := by rw [List.length_map, boxesN_len]
  refine q_for kn2 (wk_list (d_var rfl hvb)) (fun i σ' F' H' => (∃ y5 y6 y7 y8 y9 y10, σ' = [some x, some y, some u, some vb, some (.ref lf), y5, y6, y7, y8, y9, y10]) ∧ (∃ vs, H' lf = some (.lst vs) ∧ DtAll F' vs ((List.range i).map fun n => natsD (hung m n))) ∧ F' lf = none) ?_ ?_ ?_ ?_
  · intro F2 H3 s3
    exact ⟨⟨_, _, _, _, _, _, rfl⟩, ⟨[], s3.ex _ _ hl2, .nil⟩, s3.fr _ _ hl2 F1l⟩
  · rintro i σ' F' H' H2 ⟨hσ, ⟨vs, g1, g2⟩, g3⟩ kn' e
    have s := kn'.step (H1 := H2) e
    exact ⟨hσ, ⟨vs, e _ _ g1, g2.ex s.ff⟩, s.fr _ _ g1 g3⟩
  · rintro i d yb σ' F' H' hi kn' eF hd ⟨⟨y5, y6, y7, y8, y9, y10, rfl⟩, ⟨vs, g1, g2⟩, g3⟩ N hN
    have il : i < m.ss.length := by
      have z := (List.getElem?_eq_some_iff.mp hi).1
      rw [bl] at z
      exact z
    have hs : m.ss[i]? = some m.ss[i] := List.getElem?_eq_getElem il
    generalize m.ss[i] = st at hs
    have bat : ∀ {n : Nat} {s : WStep}, m.ss[n]? = some s → ((boxesN m.rs (row0 m.z) m.ss).map bxD)[n]? = some (bxD ⟨s, (tkL m n).map (numL m.rs m.z m.ss), (givenL m.rs n s).map (numL m.rs m.z m.ss)⟩) := fun h => by
      rw [List.getElem?_map, boxes_get h, box_same h]
      rfl
    rw [bat hs] at hi
    cases hi
    replace hd : Dt F' yb (.tuple [.int (st.2.1 : Nat), .str (turnS st.2.2), natsD ((tkL m i).map (numL m.rs m.z m.ss)), natsD ((givenL m.rs i st).map (numL m.rs m.z m.ss))]) := hd
    have vl : vs.length = i := by rw [g2.len, List.length_map, List.length_range]
    have hvb' := hvb.ex eF
    have tkl : (tkL m i).length ≤ 1000 := by
      rw [tkL_eq hs]
      unfold takenL
      rw [List.length_take]
      have q := srL_le ok.b.ok st
      omega
    -- ahead
    refine qg_asg (F := F') (G := H') kn' (Ex.refl _) (dg_sl kn'.fh (d_var rfl hvb') do_none (do_some ((d_lenL (d_var rfl (.lst g1 (g2.ex kn'.fh)))).is (e := .int (i : Nat)) (by rw [List.length_map, List.length_range])))) fun v6 F3 H3 s3 hv6 => ?_
    rw [cutD_lo] at hv6
    have al : (((boxesN m.rs (row0 m.z) m.ss).map bxD).take i).length = i := by rw [List.length_take, bl]; omega
    -- some
    refine q_asg (d := natsD (dirs m i)) s3.kn ((d_lc (b := fun k => (tkL m i).any fun l => decide (l.1 = some k)) (r := fun k => PyData.int (k : Nat)) (wk_enum (da_cons (d_var rfl hv6) da_nil)) (by rw [enumD_len, al]; omega) fun k d x' F4 H4 hk e1 e2 hdk Q hQ' => ?_).is ?_) fun v10 F5 H5 s5 hv10 => ?_
    · have kl := (List.getElem?_eq_some_iff.mp hk).1
      rw [enumD_len, al] at kl
      have hsk : m.ss[k]? = some (m.ss[k]'(by omega)) := List.getElem?_eq_getElem (by omega)
      generalize m.ss[k]'(by omega) = sk at hsk
      have hk2 : (((boxesN m.rs (row0 m.z) m.ss).map bxD).take i)[k]? = some (bxD ⟨sk, (tkL m k).map (numL m.rs m.z m.ss), (givenL m.rs k sk).map (numL m.rs m.z m.ss)⟩) := by rw [List.getElem?_take, if_pos kl, bat hsk]
      rw [enumD_get hk2] at hk
      cases hk
      refine gt2 hdk e2 fun u7 u8 h7 h8 => hQ' _ rfl ?_ fun _ => d_var rfl h7
      replace h8 : Dt F4 u8 (.tuple [.int (sk.2.1 : Nat), .str (turnS sk.2.2), natsD ((tkL m k).map (numL m.rs m.z m.ss)), natsD ((givenL m.rs k sk).map (numL m.rs m.z m.ss))]) := h8
      have hd4 := hd.ex (s3.ff.trans e1)
      refine t_val' ((d_anyL (bs := (tkL m i).map fun l => decide (numL m.rs m.z m.ss l ∈ (givenL m.rs k sk).map (numL m.rs m.z m.ss))) (d_lcn (wk_list (d_ixT (d_var rfl hd4) d_int (atI_nat (j := 2) rfl))) ?_ ?_ fun j d r' v F6 hj hr' e6 hd' => ?_)).is ?_)
      · rw [List.length_map, List.length_map]; omega
      · simp
      · obtain ⟨n, hn, rfl⟩ := map_at hj
        obtain ⟨l, hl, rfl⟩ := map_at hn
        rw [List.map_map] at hr'
        obtain ⟨l', hl', rfl⟩ := map_at hr'
        rw [hl] at hl'
        cases hl'
        exact d_inN (d_var rfl hd') (d_ixT (d_var rfl (h8.ex e6)) d_int (atI_nat (j := 3) rfl))
      · rw [List.any_map]
        congr 1
        have e : ∀ l ∈ tkL m i, (id ∘ fun l => decide (numL m.rs m.z m.ss l ∈ (givenL m.rs k sk).map (numL m.rs m.z m.ss))) l = decide (l.1 = some k) := fun l hl => by
          have z := num_given (m := m) (n := i) (by omega) kl hsk (tk_row hl).2
          show decide _ = decide _
          by_cases q : l.1 = some k
          · rw [decide_eq_true q, decide_eq_true (z.mpr q)]
          · rw [decide_eq_false q, decide_eq_false fun w => q (z.mp w)]
        rw [Bool.eq_iff_iff, List.any_eq_true, List.any_eq_true]
        constructor
        · rintro ⟨l, hl, h⟩
          exact ⟨l, hl, by rw [← e l hl]; exact h⟩
        · rintro ⟨l, hl, h⟩
          exact ⟨l, hl, by rw [e l hl]; exact h⟩
    · rw [enumD_len, al]
      rfl
    have t5 := s3.trans s5
    have c1 := t5.ex _ _ g1
    have c3 := t5.fr _ _ g1 g3
    have dl : (dirs m i).length ≤ i := by
      unfold dirs
      have z := List.length_filter_le (fun k => (tkL m i).any fun l => decide (l.1 = some k)) (List.range i)
      rw [List.length_range] at z
      exact z
    have hgl : ∀ g, (hung m g).length ≤ g := fun g => by
      unfold hung
      have z := List.length_filter_le (bel m g) (List.range g)
      rw [List.length_range] at z
      exact z
    refine q_for s5.kn (wk_list (d_listL (d_var rfl hv10))) (fun j σ' F' H' => (∃ y7 v10, σ' = [some x, some y, some u, some vb, some (.ref lf), some yb, some v6, y7, y8, y9, some v10] ∧ Dt F' v10 (natsD (dirs m i ++ (((dirs m i).take j).map (hung m)).flatten))) ∧ H' lf = some (.lst vs) ∧ F' lf = none ∧ (dirs m i ++ (((dirs m i).take j).map (hung m)).flatten).length ≤ 60 + 60 * j) ?_ ?_ ?_ ?_
    · intro F6 H6 s6
      refine ⟨⟨_, _, rfl, ?_⟩, s6.ex _ _ c1, s6.fr _ _ c1 c3, ?_⟩
      · rw [List.take_zero, List.map_nil, List.flatten_nil, List.append_nil]
        exact hv10.ex s6.ff
      · rw [List.take_zero, List.map_nil, List.flatten_nil, List.append_nil]
        omega
    · rintro j σ' F' H' H2 ⟨⟨y7, v10, rfl, e1⟩, e2, e3, e4⟩ kn' e
      have s := kn'.step (H1 := H2) e
      exact ⟨⟨y7, v10, rfl, e1.ex s.ff⟩, e _ _ e2, s.fr _ _ e2 e3, e4⟩
    · rintro j d yy σ' F6 H6 hj kn6 eF6 hd6 ⟨⟨y7', v10', rfl, e1⟩, e2, e3, e4⟩ N' hN'
      obtain ⟨g, hg, rfl⟩ := map_at hj
      cases hd6.int_
      have gm := List.mem_of_getElem? hg
      have gi : g < i := by
        obtain ⟨l, hl, h⟩ := dirs_mem.mp gm
        exact tk_lt hl h
      have jl := (List.getElem?_eq_some_iff.mp hg).1
      have tk : dirs m i ++ (((dirs m i).take (j + 1)).map (hung m)).flatten = (dirs m i ++ (((dirs m i).take j).map (hung m)).flatten) ++ hung m g := by
        rw [take_snoc hg, List.map_append, List.flatten_append, List.append_assoc]
        simp
      have hgl' := hgl g
      refine kg_asg (d := natsD ((dirs m i ++ (((dirs m i).take j).map (hung m)).flatten) ++ hung m g)) kn6 (Ex.refl _) ((dg_cat kn6.fh ((d_var rfl e1).g kn6.fh) (dg_ixO (d := natsD (hung m g)) kn6.fh e2 (g2.ex (t5.ff.trans eF6)) (ev_var rfl) (ev_var rfl) (atI_nat (by rw [List.getElem?_map, List.getElem?_range gi]; rfl))) (by rw [List.length_map, List.length_map]; exact szS (by omega))).is (by rw [← List.map_append]; rfl)) fun v F7 H7 s7 hv7 => ?_
      refine hN' _ F7 H7 s7.kn s7.ff ⟨⟨_, v, rfl, ?_⟩, s7.ex _ _ e2, s7.fr _ _ e2 e3, ?_⟩
      · rw [tk]; exact hv7
      · rw [tk, List.length_append]; omega
    · rintro σ' F6 H6 kn6 eF6 ⟨⟨y7', v10', rfl, e1⟩, e2, e3, e4⟩
      have ll : ((dirs m i).map fun (n : Nat) => PyData.int (n : Int)).length = (dirs m i).length := List.length_map ..
      rw [ll, List.take_length] at e1 e4
      replace e1 : Dt F6 v10' (natsD (gath m i)) := e1
      replace e4 : (gath m i).length ≤ 60 + 60 * (dirs m i).length := e4
      have el : (eo (gath m i)).length = (hung m i).length := ((List.perm_ext_iff_of_nodup (eo_nd _) (List.nodup_range.filter _)).mpr fun z => by rw [eo_mem, gath_mem, List.mem_filter, List.mem_range]).length_eq
      have hi' := hgl i
      refine k_app kn6 e2 e3 h0 (ev_var rfl) (d := natsD (hung m i)) (d_sorted (d_call (c := c_eo) (da_cons (d_var rfl e1) da_nil) ⟨_, rfl, by omega, rfl⟩) (by rw [el]; omega) fun ks p1 p2 => sorted_is p1 p2 (eo_nd _) fun z => by rw [eo_mem]; exact gath_mem) (by omega) fun v7 F7 H7 k7 e7 n7 hv7 l7 o7 fr7 => ?_
      have f7 := (t5.ff.trans eF6).trans e7
      refine hN _ F7 H7 k7 f7 ⟨⟨_, _, _, _, _, _, rfl⟩, ⟨vs ++ [v7], l7, ?_⟩, n7⟩
      rw [List.range_succ, List.map_append]
      exact (g2.ex f7).snoc hv7
  · rintro σ' F' H' kn' eF ⟨⟨y5, y6, y7, y8, y9, y10, rfl⟩, ⟨vs, g1, g2⟩, g3⟩
    rw [bl] at g2
    exact k_finL (hQ := hQ) kn' g1 g3 h0 g2 (ev_var rfl)
end
end K10
namespace K10
open PySem PySem.Spec PyProof.Rows L2 Evl WB
section
variable {P : Program} {w : World} {K : PySem.W.Frag} {mg : Str → Option Value} {base : Heap}
theorem wp_par3 {σ : L2.St} {H : Hp} {D : Ends} {rest : TS} {i j l : Nat} {ta : TA} (h : ta σ H fun vs H1 => ∃ u v w, vs = [u, v, w] ∧ rest D (((σ.set i (some u)).set j (some v)).set l (some w)) H1) : tSeq (tPar3 i j l ta) rest D σ H := h
abbrev RowsO := List (List WStep × List Nat)
def rowOD (p : List WStep × List Nat) : PyData := .tuple [stepsD p.1, natsD p.2]
/-- orders that were found -/
structure Bf (m : WayM) (rows : RowsO) : Prop where
  o : ∀ p ∈ rows, Ord m p.1 p.2
  nd : (rows.map (·.2)).Nodup
  r0 : List.range m.ss.length ∈ rows.map (·.2)
/-- what comes of an order by the first j exchanges is found -/
def Dn (m : WayM) (rows : RowsO) (told : List Nat) (j : Nat) : Prop := ∀ k x y, k < j → told[k]? = some x → told[k + 1]? = some y → ¬ dir m y x → swN k x y told ∈ rows.map (·.2)
theorem Dn.more {m : WayM} {rows : RowsO} {told : List Nat} {j : Nat} (h : Dn m rows told j) (p : List WStep × List Nat) : Dn m (rows ++ [p]) told j := fun k x y a b c d => by
  rw [List.map_append]
  exact List.mem_append.mpr (.inl (h k x y a b c d))
theorem Bf.len {m : WayM} {rows : RowsO} (b : Bf m rows) (hn : m.ss.length ≤ 5) : rows.length ≤ 3125 := by
  have z := orders_le hn b.nd fun l hl => by
    obtain ⟨p, hp, rfl⟩ := List.mem_map.mp hl
    exact (b.o p hp).pm
  rw [List.length_map] at z
  exact z
/-- how they lie -/
structure Hf (lf lm : Addr) (rows : RowsO) (F H : Hp) : Prop where
  f : ∃ vs, H lf = some (.lst vs) ∧ DtAll F vs (rows.map rowOD)
  ff : F lf = none
  m : ∃ ws, H lm = some (.lst ws) ∧ DtAll F ws ((rows.map (·.2)).map natsD)
  mf : F lm = none
theorem Hf.step {M : Addr → Prop} {lf lm : Addr} {rows : RowsO} {F0 H0 F H F1 H1 : Hp} (h : Hf lf lm rows F H) (s : StpE M F0 H0 F H F1 H1) : Hf lf lm rows F1 H1 := by
  obtain ⟨vs, a1, a2⟩ := h.f
  obtain ⟨ws, b1, b2⟩ := h.m
  exact ⟨⟨vs, s.ex _ _ a1, a2.ex s.ff⟩, s.fr _ _ a1 h.ff, ⟨ws, s.ex _ _ b1, b2.ex s.ff⟩, s.fr _ _ b1 h.mf⟩
/-- all orders -/
structure OrdL (m : WayM) (rows : RowsO) : Prop where
  o : ∀ p ∈ rows, Ord m p.1 p.2
  c : Cls m fun told => told ∈ rows.map (·.2)
  r0 : List.range m.ss.length ∈ rows.map (·.2)
  n : rows.length ≤ 3125
abbrev AOr : WayM → Hp → List V → Prop := fun m H vs => CaseB m ∧ m.ss.length ≤ 5 ∧ ∃ r t, vs = [r, t] ∧ Dt H r (rulesD m.rs) ∧ Dt H t (stepsD m.ss)
abbrev ROr : WayM → Hp → V → Prop := fun m H v => ∃ rows, OrdL m rows ∧ Dt H v (.list (rows.map rowOD))
theorem mo_or (m : WayM) : Mo (ROr m) := fun _ _ _ e ⟨rows, h1, h2⟩ => ⟨rows, h1, h2.ex e⟩
theorem rg_nats (n : Nat) : PyData.list ((List.range ((n : Int)).toNat).map fun (i : Nat) => PyData.int (i : Nat)) = natsD (List.range n) := by
  rw [Int.toNat_natCast]
  rfl
theorem cl__law_b_orders (S : Env P w K mg base) : Cl P w K mg base 3 "_law_b_orders" ["rules", "steps"] (SpP AOr ROr) := mk_cl S.fun__law_b_orders S.glo__law_b_orders sc__law_b_orders (fun _ _ _ _ _ _ us hl => match us, hl with | [_, _], _ => rfl) (wy_len fun _ _ _ ⟨_, _, _, _, e, _⟩ => by rw [e]; rfl) fun cdv A outer s H vs Q E hr h => by
  have nd := sc__law_b_orders.nd
  refine ⟨_, (pss_cons (ps_par3 (i := 2) (j := 3) (l := 4) (by rfl) nd rfl rfl rfl (by decide) (by decide) (by decide) rfl rfl rfl (pa_cons (pe_lst (pa_cons (pe_tup (pa_cons (pe_callTy (r := rListQ K) (T := "list") call_list_of (by rfl) S.free_list (by decide +kernel) (pa_cons (pv 1) pa_nil)) (pa_cons (pe_listRg rfl rfl S.free_list (prg_1 rfl S.free_range (pe_callB (r := rLenQ K) (id := "len") call_len_seq (by rfl) S.free_len (by decide +kernel) (pa_cons (pv 1) pa_nil)))) pa_nil))) pa_nil)) (pa_cons (pe_lst (pa_cons (pe_listRg rfl rfl S.free_list (prg_1 rfl S.free_range (pe_callB (r := rLenQ K) (id := "len") call_len_seq (by rfl) S.free_len (by decide +kernel) (pa_cons (pv 1) pa_nil)))) pa_nil)) (pa_cons pe_int pa_nil))) (by rfl))
    (pss_cons (ps_while (passes_of rfl) (pt_cmpR op_lt (pv 4) (pe_callB (r := rLenQ K) (id := "len") call_len_seq (by rfl) S.free_len (by decide +kernel) (pa_cons (pv 2) pa_nil)) (nomark _))
    (pss_cons (ps_asg (pe_ix (r := rIxL K) ix_list (pv 2) (pv 4) (fun _ _ => rfl)) (pg_tupK (K := K) (n := 2) rfl rfl (pgs_cons (pg_name (i := 5) nd rfl (by first | exact Or.inl rfl | exact Or.inr rfl)) (pgs_cons (pg_name (i := 6) nd rfl (by first | exact Or.inl rfl | exact Or.inr rfl)) pgs_nil))))
    (pss_cons (ps_for (passes_of rfl) rfl (pi_range1 rfl S.free_range (pa_cons (pe_op op_sub (pe_callB (r := rLenQ K) (id := "len") call_len_seq (by rfl) S.free_len (by decide +kernel) (pa_cons (pv 1) pa_nil)) pe_int) pa_nil)) (pg_name (i := 7) nd rfl (by first | exact Or.inl rfl | exact Or.inr rfl))
    (pss_cons (ps_set (i := 8) nd rfl (by first | exact Or.inl rfl | exact Or.inr rfl) (pe_cl (cl__law_w_swapped S) hr (by decide) pass_none (by rfl) (pa_cons (pv 0) (pa_cons (pe_ix (r := rIxL K) ix_list (pv 5) (pv 7) (fun _ _ => rfl)) (pa_cons (pe_ix (r := rIxL K) ix_list (pv 5) (pe_op op_add (pv 7) pe_int) (fun _ _ => rfl)) pa_nil)))))
    (pss_cons (ps_set (i := 9) nd rfl (by first | exact Or.inl rfl | exact Or.inr rfl) (pe_op op_cat (pe_op op_cat (pe_slice (r := rSlL K) sl_list (pv 6) po_none (po_some (pv 7))) (pe_lst (pa_cons (pe_ix (r := rIxL K) ix_list (pv 6) (pe_op op_add (pv 7) pe_int) (fun _ _ => rfl)) (pa_cons (pe_ix (r := rIxL K) ix_list (pv 6) (pv 7) (fun _ _ => rfl)) pa_nil)))) (pe_slice (r := rSlL K) sl_list (pv 6) (po_some (pe_op op_add (pv 7) pe_int)) po_none)))
    (pss_one (ps_if (PW.pt (pw_and (pt_cmpR op_notN (pv 8) pe_non (nomark _)) (pw_and1 (pt_cmpR (r := rNotInD K) (op_notInD (u65 hr)) (pv 9) (pv 3) (by rfl))))) (pss_cons (ps_expr (pe_bmK (K := K) (r := rAppend) rfl PySem.F.plainAttrs_list PySem.F.slot_list_append PySem.F.type_list_append mt_append (pv 2) (pa_cons (pe_tup (pa_cons (pe_op op_cat (pe_op op_cat (pe_slice (r := rSlL K) sl_list (pv 5) po_none (po_some (pv 7))) (pv 8)) (pe_slice (r := rSlL K) sl_list (pv 5) (po_some (pe_op op_add (pv 7) pe_int)) po_none)) (pa_cons (pv 9) pa_nil))) pa_nil)))
    (pss_one (ps_expr (pe_bmK (K := K) (r := rAppend) rfl PySem.F.plainAttrs_list PySem.F.slot_list_append PySem.F.type_list_append mt_append (pv 3) (pa_cons (pv 9) pa_nil))))) pss_nil)))))
    (pss_one (ps_set (i := 4) nd rfl (by first | exact Or.inl rfl | exact Or.inr rfl) (pe_op op_add (pv 4) pe_int))))))
    (pss_one (ps_ret (pv 2))))), ?_⟩
  obtain ⟨F0, ⟨rs, z, ss⟩, e0, ⟨ok, hn, r, t, rfl, hr', ht⟩, hQ⟩ := h
  replace hn : ss.length ≤ 5 := hn
  replace ok : CaseB ⟨rs, z, ss⟩ := ok
  replace hr' : Dt F0 r (rulesD rs) := hr'
  replace ht : Dt F0 t (stepsD ss) := ht
  have kn := Kn.start e0
  have b : BkOk rs := ok.b.ok
  have rg : ∀ {σ : L2.St} {F : Hp}, σ[1]? = some (some t) → Dt F t (stepsD ss) → EvD (tLstRg (tRg1 (tCB (rLenQ K) (tCons (tVar 1) tNil)))) σ F (natsD (List.range ss.length)) := fun h1 h2 => (d_lrg1 (n := (ss.length : Int)) ((d_lenL (d_var h1 h2)).is (by rw [List.length_map])) (RgOk.of_le (by omega) (by omega) (by omega) (by omega))).is (rg_nats _)
  refine wp_par3 (wp_cons (wp_lst (wp_cons (k_ev kn (d_tup (ds := [stepsD ss, natsD (List.range ss.length)]) (da_cons (d_listL (d_var rfl ht)) (da_cons (rg rfl ht) da_nil)) (by show 2 ≤ 100000; decide)) _ fun v1 F1 H1 s1 h1 => wp_nil ⟨by show 1 ≤ sizeLine; decide, fun lf hlf => ?_⟩))))
  obtain ⟨kn2, Ff⟩ := kn_own (o := .lst [v1]) s1.kn hlf
  have h0f : H lf = none := s1.hm.d lf hlf
  have l2 : upd H1 lf (.lst [v1]) lf = some (.lst [v1]) := upd_same
  generalize upd H1 lf (.lst [v1]) = H2 at kn2 l2
  refine wp_cons (wp_lst (wp_cons (k_ev kn2 (rg rfl (ht.ex s1.ff)) _ fun v2 F3 H3 s3 h3 => wp_nil ⟨by show 1 ≤ sizeLine; decide, fun lm hlm => ?_⟩)))
  have l3 := s3.ex _ _ l2
  have Ff3 := s3.fr _ _ l2 Ff
  obtain ⟨kn4, Fm⟩ := kn_own (o := .lst [v2]) s3.kn hlm
  have h0m : H lm = none := kn2.dm lm (s3.hm.d lm hlm)
  have ne : lf ≠ lm := fun q => by rw [q, hlm] at l3; cases l3
  have l4 : upd H3 lm (.lst [v2]) lf = some (.lst [v1]) := by rw [upd_ne ne]; exact l3
  have m4 : upd H3 lm (.lst [v2]) lm = some (.lst [v2]) := upd_same
  generalize upd H3 lm (.lst [v2]) = H4 at kn4 l4 m4
  refine wp_cons (wp_c (wp_nil ⟨.ref lf, .ref lm, .int 0, rfl, ?_⟩))
  have f3 := s1.ff.trans s3.ff
  have bf0 : Bf ⟨rs, z, ss⟩ [(ss, List.range ss.length)] := ⟨fun p hp => by rw [List.mem_singleton.mp hp]; exact Ord.refl ok.c, by simp, by simp⟩
  have hf0 : Hf lf lm [(ss, List.range ss.length)] F3 H4 := ⟨⟨[v1], l4, .cons (h1.ex s3.ff) .nil⟩, Ff3, ⟨[v2], m4, .cons h3 .nil⟩, Fm⟩
  refine wp_while (fun n σ' H' => ∃ (at_ : Nat) (F' : Hp) (rows : RowsO) (y5 y6 y7 y8 y9 : Option V), n = 3126 - at_ ∧ σ' = [some r, some t, some (.ref lf), some (.ref lm), some (.int (at_ : Nat)), y5, y6, y7, y8, y9] ∧ Kn M0 F0 H F' H' ∧ Ex F3 F' ∧ Hf lf lm rows F' H' ∧ Bf ⟨rs, z, ss⟩ rows ∧ at_ ≤ rows.length ∧ ∀ j p, j < at_ → rows[j]? = some p → Dn ⟨rs, z, ss⟩ rows p.2 (ss.length - 1)) 3126 ⟨0, F3, _, _, _, _, _, _, rfl, rfl, kn4, Ex.refl _, hf0, bf0, Nat.zero_le _, fun j p hj => absurd hj (Nat.not_lt_zero _)⟩ ?_
  rintro n σ' H' ⟨at_, F', rows, y5, y6, y7, y8, y9, rfl, rfl, kn', eF, hf, bf, hat, hdn⟩
  obtain ⟨vs, f1, f2⟩ := hf.f
  have ll := bf.len hn
  have lenf : ∀ {σ : L2.St}, σ[2]? = some (some (.ref lf)) → EvD (tCB (rLenQ K) (tCons (tVar 2) tNil)) σ H' (.int (rows.length : Nat)) := fun h => (d_lenL (d_var h (.lst f1 (f2.ex kn'.fh)))).is (by rw [List.length_map])
  refine (t_val (d_cmp (d_var rfl (.int _)) (lenf rfl))) H' (Ex.refl _) _ fun H6 e6 => ?_
  have s6 := kn'.step e6
  by_cases c : at_ < rows.length
  · rw [if_pos (decide_eq_true (by omega))]
    refine ⟨fun σ' H' => ∃ (F' : Hp) (rows : RowsO) (y5 y6 y7 y8 y9 : Option V), σ' = [some r, some t, some (.ref lf), some (.ref lm), some (.int ((at_ + 1 : Nat) : Int)), y5, y6, y7, y8, y9] ∧ Kn M0 F0 H F' H' ∧ Ex F3 F' ∧ Hf lf lm rows F' H' ∧ Bf ⟨rs, z, ss⟩ rows ∧ at_ + 1 ≤ rows.length ∧ ∀ j p, j < at_ + 1 → rows[j]? = some p → Dn ⟨rs, z, ss⟩ rows p.2 (ss.length - 1), fun σ' H' ⟨F', rows, y5, y6, y7, y8, y9, q⟩ => ⟨3126 - (at_ + 1), by omega, at_ + 1, F', rows, y5, y6, y7, y8, y9, rfl, q⟩, ?_⟩
    have hf6 := hf.step s6
    obtain ⟨vs6, g1, g2⟩ := hf6.f
    obtain ⟨⟨row, told⟩, hrow⟩ : ∃ p, rows[at_]? = some p := ⟨_, List.getElem?_eq_getElem c⟩
    have od := bf.o _ (List.mem_of_getElem? hrow)
    replace od : Ord ⟨rs, z, ss⟩ row told := od
    have rn : row.length = ss.length := od.n
    have tn : told.length = ss.length := od.len
    refine wp_asgG ((dg_ixO (d := rowOD (row, told)) s6.kn.fh g1 g2 (ev_var rfl) (ev_var rfl) (atI_nat (by rw [List.getElem?_map, hrow]; rfl))) H6 (Ex.refl _) _ fun v H7 e7 hv => ?_)
    have s7 := s6.kn.step e7
    have hf7 := hf6.step s7
    have eF7 : Ex F3 (nw (nw F' H' H6) H6 H7) := eF.trans (s6.ff.trans s7.ff)
    refine gt2 (d1 := stepsD row) (d2 := natsD told) hv s7.kn.fh fun u5 u6 h5 h6 => ?_
    have hr7 := hr'.ex (f3.trans eF7)
    have ht7 := ht.ex (f3.trans eF7)
    refine q_for s7.kn (wk_rng1 (n := (ss.length : Int) - 1) (da_cons ((d_sub (d_lenL (d_var rfl ht7)) d_int).is (by rw [List.length_map])) da_nil) ⟨by omega, by omega⟩) (fun j σ' F' H' => ∃ rows' y7 y8 y9, σ' = [some r, some t, some (.ref lf), some (.ref lm), some (.int (at_ : Nat)), some u5, some u6, y7, y8, y9] ∧ Hf lf lm rows' F' H' ∧ Bf ⟨rs, z, ss⟩ rows' ∧ rows'[at_]? = some (row, told) ∧ (∀ i p, i < at_ → rows'[i]? = some p → Dn ⟨rs, z, ss⟩ rows' p.2 (ss.length - 1)) ∧ Dn ⟨rs, z, ss⟩ rows' told j) ?_ ?_ ?_ ?_
    · intro F8 H8 s8
      exact ⟨rows, _, _, _, rfl, hf7.step s8, bf, hrow, hdn, fun k x y hk => absurd hk (Nat.not_lt_zero _)⟩
    · rintro j σ' F' H' H2 ⟨rows', y7, y8, y9, q1, q2, q3⟩ kn' e
      exact ⟨rows', y7, y8, y9, q1, q2.step (kn'.step (H1 := H2) e), q3⟩
    · rintro j d yy σ' F8 H8 hj kn8 eF8 hd ⟨rows', y7', y8', y9', rfl, hf8, bf8, hr8, hd8, dn8⟩ N' hN'
      have jl := (List.getElem?_eq_some_iff.mp hj).1
      rw [rngD_len] at jl
      rw [rngD_get jl, Int.zero_add] at hj
      cases hj
      cases hd.int_
      have jl2 : j + 1 < ss.length := by omega
      have a1 : row[j]? = some (row[j]'(by omega)) := List.getElem?_eq_getElem _
      have a2 : row[j + 1]? = some (row[j + 1]'(by omega)) := List.getElem?_eq_getElem _
      have b1 : told[j]? = some (told[j]'(by omega)) := List.getElem?_eq_getElem _
      have b2 : told[j + 1]? = some (told[j + 1]'(by omega)) := List.getElem?_eq_getElem _
      generalize row[j]'(by omega) = sa at a1
      generalize row[j + 1]'(by omega) = sb at a2
      generalize told[j]'(by omega) = xa at b1
      generalize told[j + 1]'(by omega) = xb at b2
      obtain ⟨q1, fq1⟩ := wyc_q od.c a1
      obtain ⟨q2, fq2⟩ := wyc_q od.c a2
      replace fq1 : rs[sa.2.1]? = some q1 := fq1
      replace fq2 : rs[sb.2.1]? = some q2 := fq2
      have h58 := h5.ex eF8
      have h68 := h6.ex eF8
      refine q_asg (d := exchD (exch rs sa sb)) kn8 (d_call (c := c_exch) (da_cons (d_var rfl (hr7.ex eF8)) (da_cons (d_ixL (d_var rfl h58) (d_var rfl (.int _)) (atI_nat (by rw [List.getElem?_map, a1]; rfl))) (da_cons (d_ixL (d_var rfl h58) (d_add (d_var rfl (.int _)) d_int) (atI_nat (j := j + 1) (by rw [List.getElem?_map, a2]; rfl))) da_nil))) ⟨rs, sa, sb, q1, q2, rfl, fq1, fq2, b.at_ fq1, b.at_ fq2, rfl⟩) fun v8 F9 H9 s9 h8 => ?_
      have h69 := h68.ex s9.ff
      have h59 := h58.ex s9.ff
      refine q_asg (d := natsD (swN j xa xb told)) s9.kn ((d_catL (d_catL (d_slL (d_var rfl h69) do_none (do_some (d_var rfl (.int _)))) (d_lst (da_cons (d_ixL (d_var rfl h69) (d_add (d_var rfl (.int _)) d_int) (atI_nat (j := j + 1) (by rw [List.getElem?_map, b2]; rfl))) (da_cons (d_ixL (d_var rfl h69) (d_var rfl (.int _)) (atI_nat (by rw [List.getElem?_map, b1]; rfl))) da_nil))) ?_) (d_slL (d_var rfl h69) (do_some (d_add (d_var rfl (.int _)) d_int)) do_none) ?_).is ?_) fun v9 F10 H10 s10 h9 => ?_
      · rw [cutD_lo, List.length_take, List.length_map]
        show min j told.length + 2 ≤ _
        exact szS (by omega)
      · rw [show ((j : Int) + 2) = ((j + 2 : Nat) : Int) by omega, cutD_lo, cutD_hi, List.length_append, List.length_take, List.length_drop, List.length_map]
        show min j told.length + 2 + (told.length - (j + 2)) ≤ _
        exact szS (by omega)
      · rw [show ((j : Int) + 2) = ((j + 2 : Nat) : Int) by omega, cutD_lo, cutD_hi]
        unfold swN natsD
        rw [List.map_append, List.map_append, List.map_take, List.map_drop]
        rfl
      have t10 := s9.trans s10
      have hf10 := hf8.step t10
      have h810 := h8.ex s10.ff
      have h510 := h59.ex s10.ff
      obtain ⟨ws10, m1, m2⟩ := hf10.m
      obtain ⟨vs10, n1, n2⟩ := hf10.f
      have fh := s10.kn.fh
      have rl := bf8.len hn
      have tst := et_and (σ := [some r, some t, some (.ref lf), some (.ref lm), some (.int (at_ : Nat)), some u5, some u6, some (.int (j : Nat)), some v8, some v9]) (t_val (d_notN (d_var (i := 8) rfl (h810.ex fh)))) fun _ => t_val (d_notInL (K := K) (l := swN j xa xb told) (L := rows'.map (·.2)) (d_var (i := 9) rfl (h9.ex fh)) (d_var (i := 3) rfl (.lst m1 (m2.ex fh))))
      refine wp_ifE (tst H10 (Ex.refl _) _ fun H11 e11 => ?_)
      have s11 := s10.kn.step e11
      have hf11 := hf10.step s11
      have stay : Dn ⟨rs, z, ss⟩ rows' told (j + 1) → N' [some r, some t, some (.ref lf), some (.ref lm), some (.int (at_ : Nat)), some u5, some u6, some (.int (j : Nat)), some v8, some v9] H11 := fun dn => hN' _ _ H11 s11.kn (t10.ff.trans s11.ff) ⟨rows', _, _, _, rfl, hf11, bf8, hr8, hd8, dn⟩
      have upto : ∀ {R : RowsO}, Dn ⟨rs, z, ss⟩ R told j → (¬ dir ⟨rs, z, ss⟩ xb xa → swN j xa xb told ∈ R.map (·.2)) → Dn ⟨rs, z, ss⟩ R told (j + 1) := fun dn hh k x y hk g1 g2 nd => by
        by_cases ek : k = j
        · subst ek
          rw [b1] at g1
          rw [b2] at g2
          cases g1
          cases g2
          exact hh nd
        · exact dn k x y (by omega) g1 g2 nd
      cases hx : exch rs sa sb with
      | none =>
        rw [show (!isNone (exchD (none : Option (WStep × WStep)))) = false from rfl, Bool.false_and, if_neg (by decide)]
        exact wp_next (stay (upto dn8 fun nd => absurd ((od.non b a1 a2 b1 b2).mp hx) nd))
      | some p =>
        rw [show (!isNone (exchD (some p))) = true from rfl, Bool.true_and]
        by_cases hin : swN j xa xb told ∈ rows'.map (·.2)
        · rw [decide_eq_true hin, if_neg (by decide)]
          exact wp_next (stay (upto dn8 fun _ => hin))
        · rw [decide_eq_false hin, if_pos (by decide)]
          have h811 : Dt (nw F10 H10 H11) v8 (.list [stepD p.1, stepD p.2]) := by
            have z := h810.ex s11.ff
            rw [hx] at z
            exact z
          have h511 := h510.ex s11.ff
          have h911 := h9.ex s11.ff
          obtain ⟨vs11, n1', n2'⟩ := hf11.f
          obtain ⟨ws11, m1', m2'⟩ := hf11.m
          have vl : vs11.length = rows'.length := by rw [n2'.len, List.length_map]
          have wl : ws11.length = rows'.length := by rw [m2'.len, List.length_map, List.length_map]
          refine q_app s11.kn n1' hf11.ff h0f (ev_var rfl) (d := rowOD (swapAt row j p, swN j xa xb told)) (d_tup (ds := [stepsD (swapAt row j p), natsD (swN j xa xb told)]) (da_cons ((d_catL (d_catL (d_slL (d_var rfl h511) do_none (do_some (d_var rfl (.int _)))) (d_var rfl h811) ?_) (d_slL (d_var rfl h511) (do_some (d_add (d_var rfl (.int _)) d_int)) do_none) ?_).is ?_) (da_cons (d_var rfl h911) da_nil)) (by show 2 ≤ 100000; decide)) (by omega) fun va F12 H12 k12 e12 n12 hva l12 o12 fr12 => ?_
          · rw [cutD_lo, List.length_take, List.length_map]
            show min j row.length + 2 ≤ _
            exact szS (by omega)
          · rw [show ((j : Int) + 2) = ((j + 2 : Nat) : Int) by omega, cutD_lo, cutD_hi, List.length_append, List.length_take, List.length_drop, List.length_map]
            show min j row.length + 2 + (row.length - (j + 2)) ≤ _
            exact szS (by omega)
          · rw [show ((j : Int) + 2) = ((j + 2 : Nat) : Int) by omega, cutD_lo, cutD_hi]
            exact congrArg PyData.list (swap_map _ _ _).symm
          · refine k_app k12 (o12 _ _ (Ne.symm ne) m1') (fr12 _ _ m1' hf11.mf) h0m (ev_var rfl) (d := natsD (swN j xa xb told)) (d_var rfl (h911.ex e12)) (by omega) fun vb F13 H13 k13 e13 n13 hvb l13 o13 fr13 => ?_
            have ff := (t10.ff.trans s11.ff).trans (e12.trans e13)
            have od' := od.next b a1 a2 hx b1 b2
            refine hN' _ F13 H13 k13 ff ⟨rows' ++ [(swapAt row j p, swN j xa xb told)], _, _, _, rfl, ⟨⟨vs11 ++ [va], o13 _ _ ne l12, ?_⟩, fr13 _ _ l12 n12, ⟨ws11 ++ [vb], l13, ?_⟩, n13⟩, ⟨fun q hq => ?_, ?_, ?_⟩, ?_, fun i q hi hq => ?_, upto (dn8.more _) fun _ => by rw [List.map_append]; exact List.mem_append.mpr (.inr (by simp))⟩
            · rw [List.map_append]
              exact (n2'.ex (e12.trans e13)).snoc (hva.ex e13)
            · rw [List.map_append, List.map_append]
              exact (m2'.ex (e12.trans e13)).snoc hvb
            · rcases List.mem_append.mp hq with hq | hq
              · exact bf8.o q hq
              · rw [List.mem_singleton.mp hq]; exact od'
            · rw [List.map_append]
              refine List.nodup_append.mpr ⟨bf8.nd, by simp, fun a ha c hc e => ?_⟩
              have : c = swN j xa xb told := by simpa using hc
              rw [← this, ← e] at hin
              exact hin ha
            · rw [List.map_append]
              exact List.mem_append.mpr (.inl bf8.r0)
            · rw [List.getElem?_append_left (List.getElem?_eq_some_iff.mp hr8).1]
              exact hr8
            · have il : i < rows'.length := by
                have := (List.getElem?_eq_some_iff.mp hr8).1
                omega
              rw [List.getElem?_append_left il] at hq
              exact (hd8 i q hi hq).more _
    · rintro σ' F8 H8 kn8 eF8 ⟨rows', y7', y8', y9', rfl, hf8, bf8, hr8, hd8, dn8⟩
      rw [rngD_len] at dn8
      refine k_asg (d := .int ((at_ + 1 : Nat) : Int)) kn8 ((d_add (d_var rfl (.int _)) d_int).is (by congr 1)) fun v9 F9 H9 s9 h9 => ?_
      cases h9.int_
      have al := (List.getElem?_eq_some_iff.mp hr8).1
      refine ⟨F9, rows', _, _, _, _, _, rfl, s9.kn, (eF7.trans eF8).trans s9.ff, hf8.step s9, bf8, by omega, fun i p hi hp => ?_⟩
      by_cases ei : i = at_
      · subst ei
        rw [hr8] at hp
        cases hp
        intro k x y hk
        exact dn8 k x y (by omega)
      · exact hd8 i p (by omega) hp
  · rw [if_neg (by rw [decide_eq_false (by omega)]; decide)]
    have hf6 := hf.step s6
    obtain ⟨vs6, g1, g2⟩ := hf6.f
    have ea : at_ = rows.length := by omega
    subst ea
    have cl : Cls ⟨rs, z, ss⟩ fun told => told ∈ rows.map (·.2) := fun told ht k x y h1 h2 nd => by
      obtain ⟨p, hp, rfl⟩ := List.mem_map.mp ht
      obtain ⟨j, hj⟩ := List.getElem?_of_mem hp
      have jl := (List.getElem?_eq_some_iff.mp hj).1
      have kl := (List.getElem?_eq_some_iff.mp h2).1
      have pl := (bf.o p hp).len
      replace pl : p.2.length = ss.length := pl
      exact hdn j p jl hj k x y (by omega) h1 h2 nd
    exact k_finL (hQ := fun v H' e hv => hQ v H' e ⟨rows, ⟨bf.o, cl, bf.r0, ll⟩, hv⟩) s6.kn g1 hf6.ff h0f g2 (ev_var rfl)
end
end K10
namespace K10
open PySem PySem.Spec PyProof.Rows L2 Evl WB
section
variable {P : Program} {w : World} {K : PySem.W.Frag} {mg : Str → Option Value} {base : Heap}
def c_ahead (ds : List PyData) (r : PyData) : Prop := ∃ (m : WayM) (rows : RowsO), ds = [stepsD m.ss, .list ((rows.map (·.2)).map natsD)] ∧ OrdL m rows ∧ m.ss.length ≤ 5 ∧ r = hungD m
theorem idx_get {xs : List Nat} {x : Nat} (h : x ∈ xs) : xs[xs.idxOf x]? = some x := by
  have l := List.idxOf_lt_length_of_mem h
  rw [List.getElem?_eq_getElem l, List.getElem_idxOf l]
theorem cl__law_ahead_always (S : Env P w K mg base) : Cl P w K mg base 1 "_law_ahead_always" ["steps", "rows"] (SpD c_ahead) := mk_cl S.fun__law_ahead_always S.glo__law_ahead_always sc__law_ahead_always (fun _ _ _ _ _ _ us hl => match us, hl with | [_, _], _ => rfl) (SpD.len fun _ _ ⟨_, _, e, _⟩ => e ▸ rfl) fun cdv A outer s H vs Q E hr h => by
  have nd := sc__law_ahead_always.nd
  refine ⟨_, (pss_cons (ps_set (i := 2) nd rfl (by first | exact Or.inl rfl | exact Or.inr rfl) (pe_lst pa_nil))
    (pss_cons (ps_for (passes_of rfl) rfl (pi_range1 rfl S.free_range (pa_cons (pe_callB (r := rLenQ K) (id := "len") call_len_seq (by rfl) S.free_len (by decide +kernel) (pa_cons (pv 0) pa_nil)) pa_nil)) (pg_name (i := 3) nd rfl (by first | exact Or.inl rfl | exact Or.inr rfl))
    (pss_one (ps_expr (pe_bmK (K := K) (r := rAppend) rfl PySem.F.plainAttrs_list PySem.F.slot_list_append PySem.F.type_list_append mt_append (pv 2) (pa_cons (pe_lc (own := [("i", 4)]) rfl nd (pi_range1 rfl S.free_range (pa_cons (pe_callB (r := rLenQ K) (id := "len") call_len_seq (by rfl) S.free_len (by decide +kernel) (pa_cons (pv 0) pa_nil)) pa_nil)) (blkOk_by (N := ["steps", "rows", "found", "k", "i", "row"]) (sc := defScope s__law_ahead_always) (by decide +kernel)) (fun _ _ _ _ _ => (pg_name (i := 4) nd rfl (by first | exact Or.inl rfl | exact Or.inr rfl))) (fun _ _ _ _ _ => pts_one (pt_val (pe_callB (r := rAll K) (id := "all") (cr_all rfl) (by rfl) S.free_all (by decide +kernel) (pa_cons (pe_lc (own := [("row", 5)]) rfl nd (pi_listK (K := K) rfl (pv 1)) (blkOk_by (N := ["steps", "rows", "found", "k", "i", "row"]) (by kernel_rfl)) (fun _ _ _ _ _ => (pg_name (i := 5) nd rfl (by first | exact Or.inl rfl | exact Or.inr rfl))) (fun _ _ _ _ _ => pts_nil) (fun _ _ _ _ _ => (pe_cmpR op_lt (pe_bmK (K := K) (r := rIndex K) rfl PySem.F.plainAttrs_list PySem.F.slot_list_index PySem.F.type_list_index mt_index (pv 5) (pa_cons (pv 4) pa_nil)) (pe_bmK (K := K) (r := rIndex K) rfl PySem.F.plainAttrs_list PySem.F.slot_list_index PySem.F.type_list_index mt_index (pv 5) (pa_cons (pv 3) pa_nil)) (nomark _)))) pa_nil)))) (fun _ _ _ _ _ => (pv 4))) pa_nil)))))
    (pss_one (ps_ret (pv 2))))), ?_⟩
  obtain ⟨F0, ds, r, e0, hd, hc, hQ⟩ := h
  have kn := Kn.start e0
  obtain ⟨m, rows, rfl, od, hn, rfl⟩ := hc
  obtain ⟨x, y, rfl, hx, hy⟩ := da2_ hd
  have ol : ∀ told ∈ rows.map (·.2), ∃ row, Ord m row told := fun told ht => by
    obtain ⟨p, hp, rfl⟩ := List.mem_map.mp ht
    exact ⟨p.1, od.o p hp⟩
  refine q_newN kn da_nil (by simp) fun ll xs F1 H1 s1 hF hl1 hl hxs => ?_
  cases hxs.nil_
  have h0 : H ll = none := hl1
  have hx1 := hx.ex s1.ff
  have hy1 := hy.ex s1.ff
  have ln : ∀ {σ : L2.St} {F : Hp}, σ[0]? = some (some x) → Dt F x (stepsD m.ss) → EvD (tCB (rLenQ K) (tCons (tVar 0) tNil)) σ F (.int ((m.ss.length : Nat) : Int)) := fun h1 h2 => (d_lenL (d_var h1 h2)).is (by rw [List.length_map])
  refine q_for s1.kn (wk_rng1 (n := ((m.ss.length : Nat) : Int)) (da_cons (ln rfl hx1) da_nil) ⟨by omega, by omega⟩) (fun i σ' F' H' => (∃ y3 y4 y5, σ' = [some x, some y, some (.ref ll), y3, y4, y5]) ∧ (∃ vs, H' ll = some (.lst vs) ∧ DtAll F' vs ((List.range i).map fun n => natsD (hung m n))) ∧ F' ll = none) ?_ ?_ ?_ ?_
  · intro F2 H2 s2
    exact ⟨⟨_, _, _, rfl⟩, ⟨[], s2.ex _ _ hl, .nil⟩, s2.fr _ _ hl hF⟩
  · rintro i σ' F' H' H2 ⟨hσ, ⟨vs, g1, g2⟩, g3⟩ kn' e
    have s := kn'.step (H1 := H2) e
    exact ⟨hσ, ⟨vs, e _ _ g1, g2.ex s.ff⟩, s.fr _ _ g1 g3⟩
  · rintro k d yy σ' F' H' hi kn' eF hd ⟨⟨y3, y4, y5, rfl⟩, ⟨vs, g1, g2⟩, g3⟩ N hN
    have kl := (List.getElem?_eq_some_iff.mp hi).1
    rw [rngD_len] at kl
    rw [rngD_get kl, Int.zero_add] at hi
    cases hi
    cases hd.int_
    have kl : k < m.ss.length := by omega
    have hx' := hx1.ex eF
    have hy' := hy1.ex eF
    have vl : vs.length = k := by rw [g2.len, List.length_map, List.length_range]
    refine k_app kn' g1 g3 h0 (ev_var rfl) (d := natsD (hung m k)) ((d_lc (b := fun i => bel m k i) (r := fun i => PyData.int (i : Nat)) (wk_rng1 (n := ((m.ss.length : Nat) : Int)) (da_cons (ln rfl hx') da_nil) ⟨by omega, by omega⟩) (by rw [rngD_len]; omega) fun i d x' F4 H4 hk e1 e2 hdk Q hQ' => ?_).is ?_) (by omega) fun v5 F5 H5 k5 e5 n5 hv5 l5 o5 fr5 => ?_
    · have il := (List.getElem?_eq_some_iff.mp hk).1
      rw [rngD_len] at il
      rw [rngD_get il, Int.zero_add] at hk
      cases hk
      cases hdk.int_
      have il : i < m.ss.length := by omega
      refine hQ' _ rfl ?_ fun _ => d_var rfl (.int _)
      have iff := ahead_iff od.c od.r0 ol il kl
      refine t_B ((d_allL (bs := (rows.map (·.2)).map fun told => decide (told.idxOf i < told.idxOf k)) (d_lcn (wk_list (d_var rfl (hy'.ex e1))) ?_ ?_ fun j d r' v F6 hj hr' e6 hd' => ?_)).is ?_)
      · rw [List.length_map, List.length_map]; have := od.n; omega
      · simp
      · obtain ⟨told, hj2, rfl⟩ := map_at hj
        rw [List.map_map] at hr'
        obtain ⟨told', hj', rfl⟩ := map_at hr'
        rw [hj2] at hj'
        cases hj'
        obtain ⟨row, o⟩ := ol told (List.mem_of_getElem? hj2)
        have mi : i ∈ told := o.pm.mem_iff.mpr (List.mem_range.mpr il)
        have mk : k ∈ told := o.pm.mem_iff.mpr (List.mem_range.mpr kl)
        refine (d_cmp (d_idxN (d_var rfl hd') (d_var rfl (.int _)) (idx_get mi) rfl) (d_idxN (d_var rfl hd') (d_var rfl (.int _)) (idx_get mk) rfl)).is ?_
        show PyData.bool (decide (((told.idxOf i : Nat) : Int) < ((told.idxOf k : Nat) : Int))) = PyData.bool (decide (told.idxOf i < told.idxOf k))
        congr 1
        by_cases q : told.idxOf i < told.idxOf k
        · rw [decide_eq_true q, decide_eq_true (by omega)]
        · rw [decide_eq_false q, decide_eq_false (by omega)]
      · congr 1
        rw [List.all_map, Bool.eq_iff_iff, List.all_eq_true]
        constructor
        · intro h
          exact iff.mp fun told ht => of_decide_eq_true (h told ht)
        · intro h told ht
          exact decide_eq_true (iff.mpr h told ht)
    · rw [rngD_len]
      have e := sorted_is (ms := (List.range m.ss.length).filter (bel m k)) (ns := (List.range m.ss.length).filter (bel m k)) (b := bel m k) (n := k) (List.Perm.refl _) (List.Pairwise.filter _ List.pairwise_le_range) (List.nodup_range.filter _) fun z => by
        rw [List.mem_filter, List.mem_range]
        exact ⟨fun h => ⟨bel_lt h.2, h.2⟩, fun h => ⟨by omega, h.2⟩⟩
      show PyData.list (((List.range (((m.ss.length : Nat) : Int)).toNat).filter fun i => bel m k i).map fun i => PyData.int (i : Nat)) = _
      rw [Int.toNat_natCast]
      unfold hung natsD
      rw [← e]
    · refine hN _ F5 H5 k5 e5 ⟨⟨_, _, _, rfl⟩, ⟨vs ++ [v5], l5, ?_⟩, n5⟩
      rw [List.range_succ, List.map_append]
      exact (g2.ex e5).snoc hv5
  · rintro σ' F' H' kn' eF ⟨⟨y3, y4, y5, rfl⟩, ⟨vs, g1, g2⟩, g3⟩
    rw [rngD_len] at g2
    exact k_finL (hQ := hQ) kn' g1 g3 h0 g2 (ev_var rfl)
end
end K10
namespace K10
open PySem PySem.Spec PyProof.Rows L2 Evl WB
section
variable {P : Program} {w : World} {K : PySem.W.Frag} {mg : Str → Option Value} {base : Heap}
abbrev AMl : List PyData → Hp → List V → Prop := fun ds H vs => ds.length ≤ 4000 ∧ ∃ v, vs = [v] ∧ Dt H v (.list ds)
abbrev RMl : List PyData → Hp → V → Prop := fun ds H v => ∃ es, Dt H v (.list es) ∧ es.length = ds.length ∧ ∀ e ∈ es, e ∈ ds
theorem mo_ml (ds : List PyData) : Mo (RMl ds) := fun _ _ _ e ⟨es, h1, h2⟩ => ⟨es, h1.ex e, h2⟩
theorem dta_erase {H : Hp} : ∀ {vs : List V} {ds : List PyData} (i : Nat), DtAll H vs ds → DtAll H (vs.eraseIdx i) (ds.eraseIdx i)
  | _, _, _, .nil => by simpa using DtAll.nil
  | _, _, 0, .cons h r => r
  | _, _, i + 1, .cons h r => .cons h (dta_erase i r)
theorem cl_mixedL (S : Env P w K mg base) : Cl P w K mg base 2 "_law_mixed" ["stream", "some"] (SpM (fun ds : List PyData => ds.length) AMl RMl) := mk_cl S.fun__law_mixed S.glo__law_mixed sc__law_mixed (fun _ _ _ _ _ _ us hl => match us, hl with | [_, _], _ => rfl) (m_len fun _ _ _ ⟨_, _, e, _⟩ => by rw [e]; rfl) fun cdv A outer s H vs Q E hr h => by
  have nd := sc__law_mixed.nd
  refine ⟨_, (pss_cons (ps_set (i := 2) nd rfl (by first | exact Or.inl rfl | exact Or.inr rfl) (pe_callTy (r := rListQ K) (T := "list") call_list_of (by rfl) S.free_list (by decide +kernel) (pa_cons (pv 1) pa_nil)))
    (pss_one (ps_ret (pe_lc (own := [("k", 3)]) rfl nd (pi_range1 rfl S.free_range (pa_cons (pe_callB (r := rLenQ K) (id := "len") call_len_seq (by rfl) S.free_len (by decide +kernel) (pa_cons (pv 2) pa_nil)) pa_nil)) (blkOk_by (N := ["stream", "some", "left", "k"]) (sc := defScope s__law_mixed) (by decide +kernel)) (fun _ _ _ _ _ => (pg_name (i := 3) nd rfl (by first | exact Or.inl rfl | exact Or.inr rfl))) (fun _ _ _ _ _ => pts_nil) (fun _ _ _ _ _ => (pe_bmK (K := K) (r := rPopAt) rfl PySem.F.plainAttrs_list PySem.F.slot_list_pop PySem.F.type_list_pop mt_popAt (pv 2) (pa_cons (pe_cl (cl__law_draw S) hr (by decide) pass_none (by rfl) (pa_cons (pv 0) (pa_cons (pe_callB (r := rLenQ K) (id := "len") call_len_seq (by rfl) S.free_len (by decide +kernel) (pa_cons (pv 2) pa_nil)) pa_nil))) pa_nil))))))), ?_⟩
  obtain ⟨F0, ds, l, s, n, r, rfl, e0, fl, fs, st, hn, ⟨h1, v, rfl, hv⟩, hQ⟩ := h
  have kn := Kn.startS e0 fl fs st
  have h1 : ds.length ≤ 4000 := h1
  obtain ⟨a, ys, rfl, ha, hys⟩ := hv.list_
  refine wp_asg ⟨_, rfl, a, ys, rfl, .inl (SqL.of (e0 _ _ ha)), fun p hp => ?_⟩
  have Fp : F0 p = none := by
    cases q : F0 p with
    | none => rfl
    | some o => rw [e0 _ _ q] at hp; cases hp
  have kn1 : Kn (Ms l s) F0 H F0 (upd H p (.lst ys)) := kn.upd_ Fp hp
  have st1 : StA l s n (upd H p (.lst ys)) := st.ex (Ex.new hp)
  have hp1 : upd H p (.lst ys) p = some (.lst ys) := upd_same
  have yl : ys.length = ds.length := hys.len
  have hMp : ∀ a, Ms l s a → a ≠ p := fun a m q => st.has a m (by rw [q]; exact hp)
  have emH : ExM (Ms l s) H (upd H p (.lst ys)) := ExM.of (Ex.new hp)
  generalize upd H p (.lst ys) = H1 at kn1 st1 hp1 emH
  refine wp_ret (wp_lc (wp_rng1 (w_da (da_cons (d_lenL (d_var rfl (dt_own Fp hys))) da_nil) (ex_own kn1 hp1) fun vs H2 e2 hvs => ?_)))
  obtain ⟨x, rfl, hx⟩ := da1_ hvs
  cases hx.int_
  have s2 := kn1.step e2
  refine ⟨_, rfl, by omega, by omega, ?_⟩
  refine lc_turns (M2 := fun b => Ms l s b ∨ b = p) (m := ds.length) s2.kn (by omega) (fun i acc F' H' => StA l s (n + i) H' ∧ F' p = none ∧ ∃ (es rd : List PyData) (rem : List V), DtAll F' acc es ∧ H' p = some (.lst rem) ∧ DtAll F' rem rd ∧ rem.length + i = ds.length ∧ es.length = i ∧ (∀ y ∈ es, y ∈ ds) ∧ ∀ y ∈ rd, y ∈ ds) ?_ ?_ ?_ ?_ ?_
  · intro a m
    rcases m with m | m
    · exact (st1.ex e2).has a m
    · rw [m, e2 _ _ hp1]; intro z; cases z
  · exact ⟨st1.ex e2, s2.fr _ _ hp1 Fp, [], ds, ys, .nil, e2 _ _ hp1, hys.ex s2.ff, yl, rfl, (fun y h => by cases h), fun y h => h⟩
  · rintro i acc F' H' H'' ⟨g1, g2, es, rd, rem, g3, g4, g5⟩ hh
    have st2 := st1.ex e2
    refine ⟨g1.at_ (hh l (st2.has l (.inl rfl))) (hh s (st2.has s (.inr rfl))), g2, es, rd, rem, g3, ?_, g5⟩
    rw [hh p (by rw [e2 _ _ hp1]; intro z; cases z)]
    exact g4
  · rintro i acc F' H' il al kn' eF em ⟨g1, g2, es, rd, rem, g3, g4, gd, g5, g6, g7, g8⟩ Q' hQ'
    have n1 : n + ds.length ≤ 1000000 := hn
    refine ⟨.ref p, rfl, Or.inl ⟨rfl, _, sq_of g4⟩, ?_⟩
    have rl : 1 ≤ rem.length := by omega
    have rdl : rd.length = rem.length := gd.len.symm
    refine wm_call1 rem.length kn' g1 (by show n + i + 1 ≤ _; omega) rfl (ex_own kn' g4) ((d_lenL (d_var rfl (dt_own g2 gd))).is (e := .int (rem.length : Nat)) (by rw [rdl])) (fun H v hv F => ⟨rl, by omega, by rw [hv.int_]⟩) (mo_dr _) fun u F3 H3 s3 st3 ⟨d, hd, dl⟩ => ?_
    subst hd
    have dsv : rem[d]? = some rem[d] := List.getElem?_eq_getElem dl
    generalize rem[d] = y at dsv
    obtain ⟨yd, hyd, hy⟩ := gd.getV dsv
    have g4' : H3 p = some (.lst rem) := s3.hm.k p _ (fun m => hMp p m rfl) g4
    have g2' := s3.fr _ _ g4 g2
    refine ⟨p, rem, (d : Nat), d, y, rfl, rfl, g4', by omega, by omega, ?_, dsv, ?_⟩
    · have z : seqIndex? ((d : Nat) : Int) rem.length = some ((d : Nat) : Int).toNat := seqIndex_of (by omega) (by omega)
      rw [z]
      rfl
    · have em3 : ExM (fun b => Ms l s b ∨ b = p) H' (upd H3 p (.lst (rem.eraseIdx d))) := ⟨fun a o nm h => by
        rw [upd_ne fun z => nm (.inr z)]
        exact s3.hm.k a o (fun m => nm (.inl m)) h, fun a h => by
        by_cases z : a = p
        · rw [z, upd_same] at h; cases h
        · rw [upd_ne z] at h; exact s3.hm.d a h⟩
      refine hQ' _ F3 _ (s3.kn.upd_ g2' hp) s3.ff em3 s3.fr ⟨?_, g2', es ++ [yd], rd.eraseIdx d, rem.eraseIdx d, (g3.ex s3.ff).snoc (hy.ex s3.ff), upd_same, dta_erase d (gd.ex s3.ff), ?_, by rw [List.length_append, g6]; rfl, fun y' h => ?_, fun y' h => g8 y' (List.mem_of_mem_eraseIdx h)⟩
      · exact st3.at_ (upd_ne (hMp l (.inl rfl))) (upd_ne (hMp s (.inr rfl)))
      · rw [List.length_eraseIdx, if_pos dl]
        omega
      · rcases List.mem_append.mp h with q | q
        · exact g7 y' q
        · rw [List.mem_singleton.mp q]; exact g8 yd (List.mem_of_getElem? hyd)
  · rintro D acc F' H' kn' eF em frr al ⟨g1, g2, es, rd, rem, g3, g4, gd, g5, g6, g7, g8⟩ hD hF hH
    have h0D : H D = none := (emH.trans (ExM.of e2)).d D hH
    exact kM_done hQ (mo_ml _) (kn'.know hF h0D hD) g1 ⟨es, .lst upd_same (g3.ex (ex_know hF)), g6, g7⟩
end
end K10
namespace K10
open PySem PySem.Spec PyProof.Rows L2 Evl WB
section
variable {P : Program} {w : World} {K : PySem.W.Frag} {mg : Str → Option Value} {base : Heap}
section
variable {M : Addr → Prop} {F0 H0 F H H' : Hp} {as : List Addr} {l s : Addr} {n : Nat}
/-- nothing more is known behind it -/
theorem Kn.same (k : Kn M F0 H0 F H) (e : Ex H H') : Kn M F0 H0 F H' where
  f := k.f
  fh := k.fh.trans e
  h := fun a o m h => e _ _ (k.h a o m h)
  dm := fun a h => k.dm a (exdm e a h)
  nw := fun a o h => by
    have q := k.nw a o h
    cases q0 : H0 a with
    | none => rw [nw_n q0] at q ⊢; exact e _ _ q
    | some u0 => rw [nw_s q0] at q ⊢; exact q
  md := k.md
  mh := k.mh
/-- what is one's own, and not known, is written -/
theorem Kn.wrote (k : Kn M F0 H0 F H) (fa : ∀ a ∈ as, F a = none) (ha : ∀ a ∈ as, H0 a = none) (kb : KeepBut as H H') (dm : Dm H H') : Kn M F0 H0 F H' where
  f := k.f
  fh := fun a o h => kb a o (fun m => by rw [fa a m] at h; cases h) (k.fh a o h)
  h := fun a o n h => kb a o (fun m => by rw [ha a m] at h; cases h) (k.h a o n h)
  dm := fun a h => k.dm a (dm a h)
  nw := fun a o h => by
    have q := k.nw a o h
    cases q0 : H0 a with
    | none => rw [nw_n q0] at q ⊢; exact kb a o (fun m => by rw [fa a m] at h; cases h) q
    | some u0 => rw [nw_s q0] at q ⊢; exact q
  md := k.md
  mh := k.mh
theorem StA.wrote (st : StA l s n H) (hl : l ∉ as) (hs : s ∉ as) (kb : KeepBut as H H') : StA l s n H' := by
  obtain ⟨xs, a, b, c, h1, h2, h3⟩ := st
  exact ⟨xs, a, b, c, kb _ _ hl h1, kb _ _ hs h2, h3⟩
end
theorem lens_of : ∀ {ds : List PyData}, (∀ d ∈ ds, lensD d = true) → lensDs ds = true
  | [], _ => rfl
  | d :: ds, h => by
    unfold lensDs
    rw [h d (List.mem_cons_self ..), lens_of fun e m => h e (List.mem_cons_of_mem _ m)]
    rfl
theorem lensList {ds : List PyData} (n : ds.length ≤ 30000) (h : ∀ d ∈ ds, lensD d = true) : lensD (.list ds) = true := by
  unfold lensD
  rw [decide_eq_true n, lens_of h]
  rfl
theorem lensTuple {ds : List PyData} (n : ds.length ≤ 30000) (h : ∀ d ∈ ds, lensD d = true) : lensD (.tuple ds) = true := by
  unfold lensD
  rw [decide_eq_true n, lens_of h]
  rfl
theorem depth_le {n : Nat} : ∀ {ds : List PyData}, (∀ d ∈ ds, d.depth ≤ n) → PyData.depthAll ds ≤ n
  | [], _ => by simp [PyData.depthAll]
  | d :: ds, h => by
    simp only [PyData.depthAll]
    exact Nat.max_le.mpr ⟨h d (List.mem_cons_self ..), depth_le fun e m => h e (List.mem_cons_of_mem _ m)⟩
theorem depthList {n : Nat} {ds : List PyData} (h : ∀ d ∈ ds, d.depth ≤ n) : (PyData.list ds).depth ≤ n + 1 := by
  simp only [PyData.depth]
  have := depth_le h
  omega
theorem depthTuple {n : Nat} {ds : List PyData} (h : ∀ d ∈ ds, d.depth ≤ n) : (PyData.tuple ds).depth ≤ n + 1 := by
  simp only [PyData.depth]
  have := depth_le h
  omega
theorem lensNats {ns : List Nat} (h : ns.length ≤ 30000) : lensD (natsD ns) = true := lensList (by rw [List.length_map]; exact h) fun d m => by
  obtain ⟨_, _, rfl⟩ := List.mem_map.mp m
  rfl
theorem depthNats (ns : List Nat) : (natsD ns).depth ≤ 1 := depthList fun d m => by
  obtain ⟨_, _, rfl⟩ := List.mem_map.mp m
  simp [PyData.depth]
section
variable {F H : Hp} {σ : L2.St} {E : XK} {te : TE} {D : Ends} {rest : TS} {g : TG} {tu : TS}
theorem wp_ap {i : Nat} {v : V} {d : PyData} {as : List Addr} {Qb : Bool → Hp → Prop} (hv : σ[i]? = some (some v)) (e0 : Ex F H) (fa : ∀ a ∈ as, F a = none) (ht : Tr H v d as) (nd : as.Nodup) (dd : d.depth < 6) (ld : lensD d = true) (k : ∀ H', KeepBut as H H' → Dm H H' → Qb false H') : tNot (tB (tCall SpAp [] E (tCons (tVar i) tNil))) σ H Qb :=
  ⟨v, hv, F, v, d, as, rfl, e0, fa, ht, nd, dd, ld, fun H' kb dm => ⟨true, rfl, k H' kb dm⟩⟩
theorem for_lst (h : te σ H fun v H1 => tSeq (tFor (iList K (tC v)) g tu) rest D σ H1) : tSeq (tFor (iList K te) g tu) rest D σ H := h
end
theorem okNats {o : Option (Addr × Addr)} {ns : List Nat} (h : ns.length ≤ 30000) : okD K o (natsD ns) := okList (by rw [List.length_map]; exact h) fun d m => by
  obtain ⟨_, _, rfl⟩ := List.mem_map.mp m
  unfold okD
  trivial
theorem dpNats (ns : List Nat) : dpS (natsD ns) ≤ 1 := dpList fun d m => by
  obtain ⟨_, _, rfl⟩ := List.mem_map.mp m
  unfold dpS
  exact Nat.le_refl _
theorem hung_len (m : WayM) (g : Nat) : (hung m g).length ≤ g := by
  unfold hung
  have z := List.length_filter_le (bel m g) (List.range g)
  rw [List.length_range] at z
  exact z
theorem okHung {o : Option (Addr × Addr)} {m : WayM} (h : m.ss.length ≤ 1000) : okD K o (hungD m) := okList (by rw [List.length_map, List.length_range]; omega) fun d hd => by
  obtain ⟨n, hn, rfl⟩ := List.mem_map.mp hd
  have := hung_len m n
  have := List.mem_range.mp hn
  exact okNats (by omega)
theorem dpHung (m : WayM) : dpS (hungD m) < 7 := Nat.lt_of_le_of_lt (dpList (n := 1) fun d hd => by
  obtain ⟨n, hn, rfl⟩ := List.mem_map.mp hd
  exact dpNats _) (by decide)
theorem lensHung {m : WayM} (h : m.ss.length ≤ 1000) : lensD (hungD m) = true := lensList (by rw [List.length_map, List.length_range]; omega) fun d hd => by
  obtain ⟨n, hn, rfl⟩ := List.mem_map.mp hd
  have := hung_len m n
  have := List.mem_range.mp hn
  exact lensNats (by omega)
theorem depthHung (m : WayM) : (hungD m).depth < 6 := by
  have h := natss_depth ((List.range m.ss.length).map (hung m))
  rw [List.map_map] at h
  have e : hungD m = .list ((List.range m.ss.length).map (natsD ∘ hung m)) := rfl
  rw [e]
  simp only [PyData.depth]
  omega
end
end K10
namespace K10
open PySem PySem.Spec PyProof.Rows L2 Evl WB
section
variable {P : Program} {w : World} {K : PySem.W.Frag} {mg : Str → Option Value} {base : Heap}
abbrev AHr : WayM → Hp → List V → Prop := fun m H vs => CaseB m ∧ ∃ r t, vs = [r, .str m.z, t] ∧ Dt H r (rulesD m.rs) ∧ Dt H t (stepsD m.ss)
theorem rd_hangs {σ : L2.St} {F : Hp} {te : TE} {m : WayM} {b : Sp} {E : XK} (h : EvP te σ F (Wy K m)) (ok : m.Ok) : EvD (tCall (SpOr (SpR (AWk K) hungD) b) [] E (tCons te tNil)) σ F (hungD m) := EvR.toD (r_callL m (pa_wk h ok))
theorem d_cv {σ : L2.St} {F : Hp} {d : PyData} {v : V} (h : Dt F v d) : EvD (tC v) σ F d := fun H1 e _ q => q v H1 (Ex.refl H1) (h.ex (ex_nw e))
theorem cl__law_hangs_right (S : Env P w K mg base) : Cl P w K mg base 10 "_law_hangs_right" ["stream", "rules", "word", "steps"] (SpM (fun _ => 3300) AHr fun _ H v => Dt H v (.bool true)) := mk_cl S.fun__law_hangs_right S.glo__law_hangs_right sc__law_hangs_right (fun _ _ _ _ _ _ us hl => match us, hl with | [_, _, _, _], _ => rfl) (m_len fun _ _ _ ⟨_, _, _, e, _⟩ => by rw [e]; rfl) fun cdv A outer s H vs Q E hr h => by
  have nd := sc__law_hangs_right.nd
  refine ⟨_, (pss_cons (ps_set (i := 4) nd rfl (by first | exact Or.inl rfl | exact Or.inr rfl) (pe_mc (mc_Way S) hr (by decide) pass_none (by rfl) (pa_cons (pe_mc (mc_Book S) hr (by decide) pass_none (by rfl) (pa_cons (pv 1) pa_nil)) (pa_cons (pv 2) (pa_cons (pe_cl (cl4_loose S) hr (by decide) pass_none (by rfl) (pa_cons (pv 0) (pa_cons (pv 3) pa_nil))) pa_nil)))))
    (pss_cons (ps_set (i := 5) nd rfl (by first | exact Or.inl rfl | exact Or.inr rfl) (pe_cl (cl__law_b_needs S) hr (by decide) pass_none (by rfl) (pa_cons (pv 1) (pa_cons (pv 2) (pa_cons (pv 3) pa_nil)))))
    (pss_cons (ps_set (i := 6) nd rfl (by first | exact Or.inl rfl | exact Or.inr rfl) (pe_cl (cl_hangs S) hr (by decide) pass_none (by rfl) (pa_cons (pv 4) pa_nil)))
    (pss_cons (ps_if (PW.pt (pw_or (pt_not (pt_val (pe_cl (cl7_same S) hr (by decide) pass_none (by rfl) (pa_cons (pv 6) (pa_cons (pv 5) pa_nil))))) (pw_or (pt_not (pt_val (pe_cl (cl__law_apart S) hr (by decide) pass_none (by rfl) (pa_cons (pv 6) pa_nil)))) (pw_or1 (pt_not (pt_val (pe_cl (cl7_same S) hr (by decide) pass_none (by rfl) (pa_cons (pe_cl (cl_hangs S) hr (by decide) pass_none (by rfl) (pa_cons (pv 4) pa_nil)) (pa_cons (pv 5) pa_nil))))))))) (pss_one (ps_ret pe_bl)) pss_nil)
    (pss_cons (ps_if (pt_cmpR op_gt (pe_callB (r := rLenQ K) (id := "len") call_len_seq (by rfl) S.free_len (by decide +kernel) (pa_cons (pv 3) pa_nil)) pe_int (nomark _)) (pss_one (ps_ret pe_bl)) pss_nil)
    (pss_cons (ps_set (i := 7) nd rfl (by first | exact Or.inl rfl | exact Or.inr rfl) (pe_cl (cl__law_b_orders S) hr (by decide) pass_none (by rfl) (pa_cons (pv 1) (pa_cons (pv 3) pa_nil))))
    (pss_cons (ps_if (pt_not (pt_val (pe_cl (cl7_same S) hr (by decide) pass_none (by rfl) (pa_cons (pe_cl (cl_hangs S) hr (by decide) pass_none (by rfl) (pa_cons (pv 4) pa_nil)) (pa_cons (pe_cl (cl__law_ahead_always S) hr (by decide) pass_none (by rfl) (pa_cons (pv 3) (pa_cons (pe_lc (own := [("row", 8), ("order", 9)]) rfl nd (pi_listK (K := K) rfl (pv 7)) (blkOk_by (N := ["stream", "rules", "word", "steps", "way", "due", "told", "rows", "row", "order", "found", "k", "i"]) (sc := defScope s__law_hangs_right) (by decide +kernel)) (fun _ _ _ _ _ => (pg_tupK (K := K) (n := 2) rfl rfl (pgs_cons (pg_name (i := 8) nd rfl (by first | exact Or.inl rfl | exact Or.inr rfl)) (pgs_cons (pg_name (i := 9) nd rfl (by first | exact Or.inl rfl | exact Or.inr rfl)) pgs_nil)))) (fun _ _ _ _ _ => pts_nil) (fun _ _ _ _ _ => (pv 9))) pa_nil))) pa_nil))))) (pss_one (ps_ret pe_bl)) pss_nil)
    (pss_cons (ps_for (passes_of rfl) rfl (pi_listK (K := K) rfl (pe_slice (r := rSlL K) sl_list (pe_cl (cl_mixedL S) hr (by decide) pass_none (by rfl) (pa_cons (pv 0) (pa_cons (pv 7) pa_nil))) po_none (po_some pe_int))) (pg_tupK (K := K) (n := 2) rfl rfl (pgs_cons (pg_name (i := 8) nd rfl (by first | exact Or.inl rfl | exact Or.inr rfl)) (pgs_cons (pg_name (i := 9) nd rfl (by first | exact Or.inl rfl | exact Or.inr rfl)) pgs_nil)))
    (pss_cons (ps_set (i := 10) nd rfl (by first | exact Or.inl rfl | exact Or.inr rfl) (pe_cl (cl_hangs S) hr (by decide) pass_none (by rfl) (pa_cons (pe_mc (mc_Way S) hr (by decide) pass_none (by rfl) (pa_cons (pe_mc (mc_Book S) hr (by decide) pass_none (by rfl) (pa_cons (pv 1) pa_nil)) (pa_cons (pv 2) (pa_cons (pv 8) pa_nil)))) pa_nil)))
    (pss_one (ps_if (pt_not (pt_val (pe_cl (cl7_same S) hr (by decide) pass_none (by rfl) (pa_cons (pv 10) (pa_cons (pe_lc (own := [("k", 11)]) rfl nd (pi_listK (K := K) rfl (pv 9)) (blkOk_by (N := ["stream", "rules", "word", "steps", "way", "due", "told", "rows", "row", "order", "found", "k", "i"]) (sc := defScope s__law_hangs_right) (by decide +kernel)) (fun _ _ _ _ _ => (pg_name (i := 11) nd rfl (by first | exact Or.inl rfl | exact Or.inr rfl))) (fun _ _ _ _ _ => pts_nil) (fun _ _ _ _ _ => (pe_callB (r := rSorted K) (id := "sorted") cr_sorted (by rfl) S.free_sorted (by decide +kernel) (pa_cons (pe_lc (own := [("i", 12)]) rfl nd (pi_listK (K := K) rfl (pe_ix (r := rIxL K) ix_list (pv 5) (pv 11) (fun _ _ => rfl))) (blkOk_by (N := ["stream", "rules", "word", "steps", "way", "due", "told", "rows", "row", "order", "found", "k", "i"]) (by kernel_rfl)) (fun _ _ _ _ _ => (pg_name (i := 12) nd rfl (by first | exact Or.inl rfl | exact Or.inr rfl))) (fun _ _ _ _ _ => pts_nil) (fun _ _ _ _ _ => (pe_bmK (K := K) (r := rIndex K) rfl PySem.F.plainAttrs_list PySem.F.slot_list_index PySem.F.type_list_index mt_index (pv 9) (pa_cons (pv 12) pa_nil)))) pa_nil)))) pa_nil))))) (pss_one (ps_ret pe_bl)) pss_nil))))
    (pss_one (ps_ret pe_bl)))))))))), ?_⟩
  obtain ⟨F0, ⟨rs, z, ss⟩, l, s, n, _, rfl, e0, fl, fs, st, hn, ⟨ok, r, t, rfl, hr', ht⟩, hQ⟩ := h
  have hn : n + 3300 ≤ 1000000 := hn
  replace ok : CaseB ⟨rs, z, ss⟩ := ok
  replace hr' : Dt F0 r (rulesD rs) := hr'
  replace ht : Dt F0 t (stepsD ss) := ht
  have okm := ok.ok
  have b : BkOk rs := ok.b.ok
  have sl : ss.length ≤ 60 := ok.sl
  have rl : rs.length ≤ 14 := ok.b.n
  have cs := cnt_steps ss
  have kn := Kn.startS e0 fl fs st
  refine wp_asg (make_of (wp_cons (kp_ev kn (p_make rs (fun H1 e Q q => da_cons (d_var rfl hr') da_nil H1 e _ fun vs H2 e2 hv => by
      obtain ⟨x, rfl, hx⟩ := da1_ hv
      exact q [x] H2 e2 ⟨b, x, rulesD rs, rfl, hx, lo_rules rs⟩) (BookAt.mo _ _)) _ fun vb F1 H1 s1 hb1 => ?_)))
  refine wp_cons ⟨.str z, rfl, wp_cons (wm_call (k := cntD) (args := ALo 3) (res := RLo) (stepsD ss) s1.kn (st.ex s1.ex) (by omega) rfl (pa_lo (d_var rfl (ht.ex s1.ff)) (lok_steps (by omega))) (mo_lo _) fun v3 F3 H3 s3 st3 ⟨e3, he3, lo3⟩ => wp_nil ?_)⟩
  refine kp_ev s3.kn (p_make (⟨rs, z, ss⟩ : WayM) (pa_c (B := AWn K ⟨rs, z, ss⟩) ⟨okm, vb, .str z, v3, e3, rfl, BookAt.mo _ _ _ _ _ s3.ff hb1, .str z, he3, lo_steps_of lo3⟩ fun H H' vs e ⟨q1, b, z, t, d, q2, q3, q4, q5, q6⟩ => ⟨q1, b, z, t, d, q2, BookAt.mo _ _ _ _ _ e q3, q4.ex e, q5.ex e, q6⟩) (WayAt.mo _ _ _)) _ fun vw F4 H4 s4 hw4 => ?_
  replace hw4 : Wy K ⟨rs, z, ss⟩ F4 vw := hw4
  have st4 : StA l s (n + 61) H4 := (st3.ex s4.ex).mono (by omega)
  have f4 := (s1.ff.trans s3.ff).trans s4.ff
  refine q_asg (d := hungD ⟨rs, z, ss⟩) s4.kn (d_call (c := c_needs) (da_cons (d_var rfl (hr'.ex f4)) (da_cons (d := .str z) (d_var rfl (.str _)) (da_cons (d_var rfl (ht.ex f4)) da_nil))) ⟨⟨rs, z, ss⟩, rfl, ok, rfl⟩) fun v5 F5 H5 s5 h5 => ?_
  have hw5 := WayAt.mo _ _ _ _ _ _ s5.ff hw4
  have f5 := f4.trans s5.ff
  have hr5 := hr'.ex f5
  have ht5 := ht.ex f5
  have st5 := st4.ex s5.ex
  refine wp_asg (r_callL (⟨rs, z, ss⟩ : WayM) (pa_wk (p_var rfl hw5 (WayAt.mo _ _ _)) okm) H5 s5.kn.fh _ fun v6 H6 as6 e6 q1 n1 f1 => ?_)
  have kn6 := Kn.same s5.kn e6
  have tr6 : Tr H6 v6 (hungD ⟨rs, z, ss⟩) as6 := q1.ex (nw_ex (s5.kn.fh.trans e6))
  have fa : ∀ a ∈ as6, F5 a = none := fun a h => by
    cases q : F5 a with
    | none => rfl
    | some o =>
      have z := f1 a h
      rw [s5.kn.fh _ _ q] at z
      cases z
  have ha0 : ∀ a ∈ as6, H a = none := fun a h => s5.kn.dm a (f1 a h)
  have hl0 : l ∉ as6 := fun h => st.has l (.inl rfl) (ha0 l h)
  have hs0 : s ∉ as6 := fun h => st.has s (.inr rfl) (ha0 s h)
  have okH : okD K none (hungD ⟨rs, z, ss⟩) := okHung (m := ⟨rs, z, ss⟩) (by show ss.length ≤ _; omega)
  refine wp_if (wp_or ?_)
  refine wp_t (et_not (t_B (d_same (o := none) (d_var rfl tr6.dt) (d_var rfl (h5.ex kn6.fh)) okH (fun _ h => nomatch h) (dpHung _)))) (Ex.refl H6) fun H7 e7 => ?_
  rw [if_neg (by decide)]
  refine wp_or ?_
  refine wp_ap rfl (kn6.fh.trans e7) fa (tr6.ex e7) n1 (depthHung _) (lensHung (by show ss.length ≤ _; omega)) fun H8 kb dm => ?_
  rw [if_neg (by decide)]
  have kn8 := Kn.wrote (Kn.same kn6 e7) fa ha0 kb dm
  have st8 := StA.wrote ((st5.ex e6).ex e7) hl0 hs0 kb
  refine wp_t (et_not (t_B (d_same (o := none) (rd_hangs (p_var rfl hw5 (WayAt.mo _ _ _)) okm) (d_var rfl h5) okH (fun _ h => nomatch h) (dpHung _)))) kn8.fh fun H9 e9 => ?_
  rw [if_neg (by decide)]
  refine wp_next ?_
  have kn9 := Kn.same kn8 e9
  have st9 := st8.ex e9
  refine q_if kn9 (t_val (d_cmp ((d_lenL (d_var rfl ht5)).is (e := .int (ss.length : Int)) (by rw [List.length_map])) d_int)) (fun hb F10 H10 s10 => ?_) fun hb F10 H10 s10 => ?_
  · exact kM_fin hQ (mo_dt _) s10.kn ((st9.ex s10.ex).mono (by show n + 61 ≤ n + 3300; omega)) (EvD.toP d_bl)
  have h5l : ss.length ≤ 5 := by
    have z := of_decide_eq_false hb
    omega
  have st10 := st9.ex s10.ex
  refine qp_asg s10.kn (p_call (⟨rs, z, ss⟩ : WayM) (fun H1 e Q q => da_cons (d_var rfl (hr5.ex s10.ff)) (da_cons (d_var rfl (ht5.ex s10.ff)) da_nil) H1 e _ fun vs H2 e2 hv => by
    obtain ⟨x, y, rfl, hx, hy⟩ := da2_ hv
    exact q _ H2 e2 ⟨ok, h5l, x, y, rfl, hx, hy⟩) (mo_or _)) fun v7 F11 H11 s11 ⟨rows, od, h7⟩ => ?_
  have f11 := s10.ff.trans s11.ff
  have hw11 := WayAt.mo _ _ _ _ _ _ f11 hw5
  have ht11 := ht5.ex f11
  have hr11 := hr5.ex f11
  have h511 := h5.ex f11
  have rn := od.n
  refine q_ifF s11.kn (et_not (t_B (d_same (o := none) (rd_hangs (p_var rfl hw11 (WayAt.mo _ _ _)) okm) (d_call (c := c_ahead) (da_cons (d_var rfl ht11) (da_cons (d := .list ((rows.map (·.2)).map natsD)) (d_lcm (wk_list (d_var rfl h7)) (by rw [List.length_map]; omega) (by simp) fun i d r' x' F' H' hi hr2 e1 e2 hd Q hQ' => ?_) da_nil)) ⟨⟨rs, z, ss⟩, rows, rfl, od, h5l, rfl⟩) okH (fun _ h => nomatch h) (dpHung _)))) rfl fun F12 H12 s12 => ?_
  · obtain ⟨p, hp, rfl⟩ := map_at hi
    rw [List.map_map] at hr2
    obtain ⟨p', hp', rfl⟩ := map_at hr2
    rw [hp] at hp'
    cases hp'
    exact gt2 (d1 := stepsD p.1) (d2 := natsD p.2) hd e2 fun u1 u2 h1 h2 => hQ' _ rfl (d_var rfl h2)
  have st12 := (st10.ex s11.ex).ex s12.ex
  refine for_lst (wp_sl (wm_call (k := fun ds : List PyData => ds.length) (args := AMl) (res := RMl) (rows.map rowOD) s12.kn st12 (by show n + 61 + (rows.map rowOD).length ≤ _; rw [List.length_map]; omega) rfl (fun H1 e Q q => da_cons (d_var rfl (h7.ex s12.ff)) da_nil H1 e _ fun vs H2 e2 hv => by
    obtain ⟨x, rfl, hx⟩ := da1_ hv
    exact q _ H2 e2 ⟨by rw [List.length_map]; omega, x, rfl, hx⟩) (mo_ml _) fun vm F13 H13 s13 st13 ⟨es, hes, el, em⟩ => wp_nopart (wp_part ⟨4, rfl, ?_⟩)))
  obtain ⟨am, xs, rfl, hm1, hm2⟩ := hes.list_
  refine ⟨am, xs, rfl, SqL.of (s13.kn.fh _ _ hm1), fun pl hpl => ?_⟩
  have kn14 := kn_new (o := .lst (cutV xs none (some 4))) s13.kn hpl
  have e14 := know_ex (o := .lst (cutV xs none (some 4))) s13.kn hpl
  have st14 := st13.ex (Ex.new (o := .lst (cutV xs none (some 4))) hpl)
  have hl14 : Dt (upd F13 pl (.lst (cutV xs none (some 4)))) (.ref pl) (.list (es.take 4)) := .lst upd_same (by
    have z := (hm2.cut none (some 4)).ex e14
    rw [show ((4 : Int)) = ((4 : Nat) : Int) from rfl, cutD_lo] at z
    exact z)
  have f14 := f11.trans (s12.ff.trans (s13.ff.trans e14))
  have hr14 := hr5.ex f14
  have h514 := h5.ex f14
  have st14' : StA l s (n + 3300) (upd H13 pl (.lst (cutV xs none (some 4)))) := st14.mono (by show n + 61 + (rows.map rowOD).length ≤ _; rw [List.length_map]; omega)
  generalize upd F13 pl (.lst (cutV xs none (some 4))) = F14 at kn14 hl14 hr14 h514
  generalize upd H13 pl (.lst (cutV xs none (some 4))) = H14 at kn14 st14'
  refine q_for kn14 (wk_list (d_cv hl14)) (fun i σ' F' H' => (∃ y8 y9 y10 y11 y12, σ' = [some (.ref l), some r, some (.str z), some t, some vw, some v5, some v6, some v7, y8, y9, y10, y11, y12]) ∧ StA l s (n + 3300) H') ?_ ?_ ?_ ?_
  · intro F15 H15 s15
    exact ⟨⟨_, _, _, _, _, rfl⟩, st14'.ex s15.ex⟩
  · rintro i σ' F' H' H2 ⟨hσ, g1⟩ kn' e
    exact ⟨hσ, g1.ex e⟩
  · rintro i d y σ' F' H' hi kn' eF hd ⟨⟨y8, y9, y10, y11, y12, rfl⟩, g1⟩ N hN
    obtain ⟨⟨row, told⟩, hp, rfl⟩ := List.mem_map.mp (em d (List.mem_of_mem_take (List.mem_of_getElem? hi)))
    have o := od.o _ hp
    replace o : Ord ⟨rs, z, ss⟩ row told := o
    have rwn : row.length = ss.length := o.n
    have tn : told.length = ss.length := o.len
    have ok' : CaseB ⟨rs, z, row⟩ := ⟨ok.b, ok.n, ok.w, ok.zl, o.c, by show row.length ≤ 60; omega⟩
    refine gt2 (d1 := stepsD row) (d2 := natsD told) hd kn'.fh fun u8 u9 h8 h9 => ?_
    have hr15 := hr14.ex eF
    have h515 := h514.ex eF
    refine q_asg (d := hungD ⟨rs, z, row⟩) kn' (rd_hangs (p_way ⟨rs, z, row⟩ ok'.ok (p_make rs (fun H1 e Q q => da_cons (d_var rfl hr15) da_nil H1 e _ fun vs H2 e2 hv => by
      obtain ⟨x, rfl, hx⟩ := da1_ hv
      exact q [x] H2 e2 ⟨b, x, rulesD rs, rfl, hx, lo_rules rs⟩) (BookAt.mo _ _)) (d_var rfl (.str _)) (d_var rfl h8) (lo_steps row)) ok'.ok) fun v10 F16 H16 s16 h10 => ?_
    refine k_ifF s16.kn (et_not (t_B (d_same (o := none) (d_var rfl h10) ((d_lcn (rs := (List.range row.length).map fun n => natsD (hung ⟨rs, z, row⟩ n)) (wk_list (d_var rfl (h9.ex s16.ff))) ?_ ?_ fun p d r' v F17 hj hr2 e17 hd' => ?_).is rfl) (okHung (m := ⟨rs, z, row⟩) (by show row.length ≤ _; omega)) (fun _ h => nomatch h) (dpHung _)))) rfl fun F18 H18 s18 => ?_
    · rw [List.length_map]; omega
    · rw [List.length_map, List.length_map, List.length_range]; omega
    · obtain ⟨k, hk, rfl⟩ := map_at hj
      have pl2 := (List.getElem?_eq_some_iff.mp hk).1
      rw [List.getElem?_map, List.getElem?_range (by omega)] at hr2
      cases hr2
      have kl : k < ss.length := List.mem_range.mp (o.pm.mem_iff.mp (List.mem_of_getElem? hk))
      have hl := hung_len ⟨rs, z, ss⟩ k
      have h517 := h515.ex (s16.ff.trans e17)
      have h917 := h9.ex (s16.ff.trans e17)
      refine d_sorted (ns := (hung ⟨rs, z, ss⟩ k).map fun i => told.idxOf i) (d_lcn (rs := ((hung ⟨rs, z, ss⟩ k).map fun i => told.idxOf i).map fun (n : Nat) => PyData.int (n : Int)) (wk_list (d_ixL (d := natsD (hung ⟨rs, z, ss⟩ k)) (d_var rfl h517) (d_var rfl hd') (atI_nat (by rw [List.getElem?_map, List.getElem?_range kl]; rfl)))) ?_ ?_ fun j d r3 v F19 hj3 hr3 e19 hd3 => ?_) ?_ fun ks p1 p2 => ?_
      · rw [List.length_map]; omega
      · simp
      · obtain ⟨i2, hi2, rfl⟩ := map_at hj3
        rw [List.map_map] at hr3
        obtain ⟨i3, hi3, rfl⟩ := map_at hr3
        rw [hi2] at hi3
        cases hi3
        have il2 := bel_lt (hung_mem.mp (List.mem_of_getElem? hi2))
        have mi : i2 ∈ told := o.pm.mem_iff.mpr (List.mem_range.mpr (by show i2 < ss.length; omega))
        exact d_idxN (d_var rfl (h917.ex e19)) (d_var rfl hd3) (idx_get mi) rfl
      · rw [List.length_map]; omega
      · have nd : ((hung ⟨rs, z, ss⟩ k).map fun i => told.idxOf i).Nodup := by
          rw [List.Nodup, List.pairwise_map]
          refine List.Pairwise.imp_of_mem (fun {a c} ha hc hne he => hne ?_) (show (hung ⟨rs, z, ss⟩ k).Pairwise (· ≠ ·) from List.nodup_range.filter _)
          have ma := bel_lt (hung_mem.mp ha)
          have mc := bel_lt (hung_mem.mp hc)
          have g1 := idx_get (o.pm.mem_iff.mpr (List.mem_range.mpr (show a < ss.length by omega)))
          have g2 := idx_get (o.pm.mem_iff.mpr (List.mem_range.mpr (show c < ss.length by omega)))
          rw [he] at g1
          rw [g1] at g2
          exact Option.some.inj g2
        exact sorted_is p1 p2 nd fun x => o.hungo hk x
    · exact hN _ F18 H18 s18.kn (s16.ff.trans s18.ff) ⟨⟨_, _, _, _, _, rfl⟩, (g1.ex s16.ex).ex s18.ex⟩
  · rintro σ' F' H' kn' eF ⟨⟨y8, y9, y10, y11, y12, rfl⟩, g1⟩
    exact kM_fin hQ (mo_dt _) kn' g1 (EvD.toP d_bl)
end
end K10
namespace K10
open PySem PySem.Spec PyProof.Rows L2 Evl WB
open LamX hiding takes0
section
variable {P : Program} {w : World} {K : PySem.W.Frag} {mg : Str → Option Value} {base : Heap}
theorem takes_len {X : Cx} {W : WX} (t : Takes X W) : Takes X (fun c d σ H => σ.length = X.N.length → W c d σ H) := fun u s' ⟨a, B, sI, pins, σ, H, cls, d, e, I, nb, up, sky, na, os, ag, w⟩ =>
  t u s' ⟨a, B, sI, pins, σ, H, cls, d, e, I, nb, up, sky, na, os, ag, w I.len⟩
/-- an error, its field, the name it is told by -/
def MetE (K : PySem.W.Frag) (C : Addr) (f k : Str) : Prop := C = He.ga K "BadWay" ∧ f = "thing" ∧ k = "way"
/-- what comes of an error -/
def EMet (K : PySem.W.Frag) (Q : VK) : XK := fun cls d H => ∃ C f v k dd, cls = .ref C ∧ d = some dd ∧ H dd = some (.xd [(f, v)]) ∧ MetE K C f k ∧ ∀ p, H p = none → Q (.ref p) (upd H p (.tup [.str k, v]))
/-- what is told of a call -/
def TTmet (K : PySem.W.Frag) : (XK → Hp → VK → Prop) → Hp → VK → Prop := fun tl H Q => tl (EMet K Q) H (fun v G => [V.str "told", v].length ≤ sizeLine ∧ ∀ p, G p = none → Q (.ref p) (upd G p (.tup [.str "told", v])))
theorem at1 {σ : L2.St} {v : V} (h : σ.length = 2) : (σ.set 1 (some v))[1]? = some (some v) := by
  rw [List.getElem?_set_self (by omega)]
theorem met_gives {X : Cx} (S : Env X.prog X.w X.K X.mg X.base) {g : Addr} {q : Str} (cdg : Value) : GivesTo X ["ask", "e"] "_law_met" (defScope s__law_met) g cdg (defBody s__law_met) "ask" q (TTmet X.K) := by
  intro f c' s H Q tl act hc h
  have nd := sc__law_met.nd
  refine ⟨_, pss_one (ps_try_ass (i := 1) (X := (cxOf C8.CX0 X.prog X.w X.K X.mg X.base ["ask", "e"] "_law_met" (defScope s__law_met) g cdg X.A X.stack s H C8.E0).nox)
      (tb := fun W D σ H => ∃ Ech : XK, (∀ cls d σ' H', Ech cls d H' → σ'.length = 2 → W cls d σ' H') ∧ σ[0]? = some (some (.ref f)) ∧ H c' = some (CodeO c' q) ∧ tl Ech H (fun v G => [V.str "told", v].length ≤ sizeLine ∧ ∀ p, G p = none → D.rt (.ref p) (upd G p (.tup [.str "told", v]))))
      rfl rfl nd rfl rfl takes0 (fun W pn xe tk _ => ?_)
      (AsOk.cons ⟨by rfl, by decide, .inl S.glo_BadWay⟩ (fun a oe cls d pn hz hf => pss_one (ps_ret (pe_tup (pa_cons pe_str (pa_cons (pe_xf (er_BadWay S).xf (er_BadWay S).no hz hf (pv 1)) pa_nil))))) AsOk.nil)), ?_⟩
  · refine ⟨fun pins s' σ H' D I h' => ?_⟩
    obtain ⟨Ech, hW, h1, h2, h3⟩ := h'
    have hp := fun p1 p2 => act _ pn xe Ech p1 p2 (takes_len tk) hW
    refine PSs.run (pss_one (ps_ret (pe_tup (pa_cons pe_str (pa_cons (hp _ _) pa_nil))))) pins s' σ H' D I ?_
    refine wp_ret (wp_tup (wp_cons (wp_c (wp_cons ?_))))
    exact ⟨h1, h2, h3⟩
  · refine ⟨EMet X.K Q, ?_, rfl, hc, h⟩
    rintro cls d σ' H' ⟨C, fl, v, k, dd, rfl, rfl, hd, hm, hq⟩ hl
    obtain ⟨rfl, rfl, rfl⟩ := hm
    exact ⟨true, S.exm_BadWay_BadWay, fun _ a ha => wp_ret (wp_tup (wp_cons (wp_c (wp_cons ⟨.ref a, at1 hl, rfl, rfl, dd, _, v, rfl, hd, rfl, wp_nil ⟨by show 2 ≤ sizeLine; decide, fun p hp => hq p hp⟩⟩)))), fun z => nomatch z⟩
section
variable {M : Addr → Prop} {Pt : Addr} {q : Str} {F0 H0 F H : Hp} {σ : L2.St} {ta : TA} {Q : VK}
theorem stp_new {p : Addr} {o : HO} (kn : Kn M F0 H0 F H) (hp : H p = none) : Stp M F0 H0 F H (upd F p o) (upd H p o) := ⟨kn_new kn hp, know_ex kn hp, ExM.of (Ex.new hp), fun a u h n => by
  rw [upd_ne (fun z => by rw [z, hp] at h; cases h)]
  exact n⟩
/-- what is told of a call that is refused; more may be written -/
theorem lam_bad {bad : Hp → List V → Addr → Str → V → Prop} {a : Sp} {C : Addr} {f kd : Str} {z : V} (hm : MetE K C f kd) (hM : M Pt) (kn : Kn M F0 H0 F H) (tb : TabS H Pt q) (h : EvPA ta σ F (fun G vs => bad G vs C f z))
    (k : ∀ (p : Addr) (F1 H1 : Hp), Stp M F0 H0 F H F1 H1 → ExM (fun a => a = Pt) H H1 → TabS H1 Pt q → F1 p = some (.tup [.str kd, z]) → Q (.ref p) H1) :
    tLamB Pt q (TTmet K) (fun E => tCall (SpOr a (SpX bad)) [] E ta) σ H Q := by
  refine ⟨tb, fun G eG tG => ?_⟩
  have eM := eG.exm (tab_no tG)
  have s1 := kn.stepM (ExM.mono (N := fun a => a = Pt) (fun a (z : a = Pt) => by rw [z]; exact hM) eM)
  show tCall (SpOr a (SpX bad)) [] (EMet K Q) ta σ G _
  refine x_call (s1.ff.trans s1.kn.fh) h fun d H2 e2 hd hn => ⟨C, f, z, kd, d, rfl, rfl, hd, hm, fun p hp => ?_⟩
  have s2 := s1.kn.step e2
  have s3 := stp_new (o := .tup [.str kd, z]) s2.kn hp
  exact k p _ _ ((s1.trans s2.toStp).trans s3) ((eM.trans (ExM.of e2)).trans (ExM.of (Ex.new hp))) ((tG.ext e2).ext (Ex.new hp)) upd_same
end
end
end K10
namespace K10
open PySem PySem.Spec PyProof.Rows L2 Evl WB
open LamX hiding takes0
section
variable {P : Program} {w : World} {K : PySem.W.Frag} {mg : Str → Option Value} {base : Heap}
section
variable {σ : L2.St} {F H : Hp} {te tx tb : TE} {tr ta : TA} {C : Addr} {rs : List Rule} {ds : List PyData} {d : PyData} {Q : VK}
/-- data, a Book behind it -/
abbrev PB (C : Addr) (rs : List Rule) (ds : List PyData) : Hp → List V → Prop := fun H vs => ∃ b : Addr, BookAt C rs H (.ref b) ∧ DtAll H vs (ds ++ [.dict [(.int (b : Nat), .int (C : Nat))]])
theorem pb_nil (h : EvP te σ F (BookAt C rs)) : EvPA (tCons te tNil) σ F (PB C rs []) := fun H1 e _ q => h H1 e _ fun v H2 e2 hv => by
  have hv2 := hv
  obtain ⟨b, dx, l, rfl, g1, g2⟩ := hv
  exact q [.ref b] H2 e2 ⟨b, hv2, .cons (.ins g1) .nil⟩
theorem pb_cons (h : EvD te σ F d) (hr : EvPA tr σ F (PB C rs ds)) : EvPA (tCons te tr) σ F (PB C rs (d :: ds)) := fun H1 e _ q => h H1 e _ fun v H2 e2 hv => hr H2 (e.trans e2) _ fun vs H3 e3 ⟨b, g1, g2⟩ =>
  q (v :: vs) H3 (e2.trans e3) ⟨b, BookAt.mo _ _ _ _ _ (nw_l e (exdm e2)) g1, .cons (hv.ex (nw_r (exexn e3))) (g2.ex (nw_l e (exdm e2)))⟩
theorem pb_tup (h : EvPA ta σ F (PB C rs ds)) (hl : ds.length ≤ 1000) : EvP (tTup ta) σ F (fun H v => ∃ b : Addr, BookAt C rs H (.ref b) ∧ Dt H v (.tuple (ds ++ [.dict [(.int (b : Nat), .int (C : Nat))]]))) := fun H1 e _ q => wp_tup (h H1 e _ fun vs H2 e2 ⟨b, g1, g2⟩ => ⟨by
  have l := g2.len
  rw [List.length_append] at l
  rw [l]
  exact Nat.le_trans (Nat.add_le_add_right hl 1) (by decide), fun p hp => q _ _ (e2.trans (Ex.new hp)) ⟨b, BookAt.mo _ _ _ _ _ (nw_r (exexn (Ex.new hp))) g1, tp_new e2 hp g2⟩⟩)
theorem wp_not' {t : TT} {Q : Bool → Hp → Prop} (h : t σ H fun c H1 => Q (!c) H1) : tNot t σ H Q := h
theorem wp_call' {sp : Sp} {E : XK} (h : ta σ H fun vs H1 => sp (vs ++ []) H1 Q E) : tCall sp [] E ta σ H Q := h
end
/-- an odd thing in place of a Way -/
structure OddW (K : PySem.W.Frag) (p : Addr × Addr) (d : PyData) : Prop where
  ty : HasTy K d
  way : PySem.W.kitOne K (tyD d) (.ref (CW K)) = some false
  ok : okD K (some p) d
  dp : dpS d ≤ 3
theorem oddW_ok (S : Env P w K mg base) {z : Str} {ss : List WStep} (hs : ss.length ≤ 1000) (b : Addr) : ∀ d ∈ [PyData.none, .int 5, .str z, stepsD ss, .dict []] ++ [.dict [(.int (b : Nat), .int (CB K : Nat))]], OddW K (b, CB K) d := fun d m => by
  simp only [List.cons_append, List.nil_append, List.mem_cons, List.not_mem_nil, or_false] at m
  rcases m with rfl | rfl | rfl | rfl | rfl | rfl
  · exact ⟨ty_of rfl, S.kto_NoneType_Way, by unfold okD; trivial, by unfold dpS; decide⟩
  · exact ⟨ty_of rfl, S.kto_int_Way, by unfold okD; trivial, by unfold dpS; decide⟩
  · exact ⟨ty_of rfl, S.kto_str_Way, by unfold okD; trivial, by unfold dpS; decide⟩
  · exact ⟨ty_of rfl, S.kto_list_Way, okSteps hs, Nat.le_trans (dpSteps ss) (by decide)⟩
  · exact ⟨ty_of rfl, S.kto_dict_Way, by unfold okD; exact .inl rfl, by unfold dpS; decide⟩
  · exact ⟨ty_ins fun H dx fs h => S.ins_Book h, S.kit_Book_Way, by unfold okD; exact .inr ⟨b, CB K, rfl, .inl rfl, rfl⟩, by unfold dpS; decide⟩
theorem turn_at {i : Nat} (h : i < 6) : ∃ a b : Nat, a ≤ 60 ∧ b ≤ 30 ∧ ([PyData.int 5, .int 5, .int 5, .int 8, .int 12, .int 60])[i]? = some (.int (a : Nat)) ∧ ([PyData.int 4, .int 5, .int 6, .int 7, .int 8, .int 30])[i]? = some (.int (b : Nat)) := by
  match i, h with
  | 0, _ => exact ⟨5, 4, by decide, by decide, rfl, rfl⟩
  | 1, _ => exact ⟨5, 5, by decide, by decide, rfl, rfl⟩
  | 2, _ => exact ⟨5, 6, by decide, by decide, rfl, rfl⟩
  | 3, _ => exact ⟨8, 7, by decide, by decide, rfl, rfl⟩
  | 4, _ => exact ⟨12, 8, by decide, by decide, rfl, rfl⟩
  | 5, _ => exact ⟨60, 30, by decide, by decide, rfl, rfl⟩
abbrev Q1 : Str := (d_law.qual ++ ".<locals>.") ++ "<lambda>"
/-- what is written: the stream, its script, the table -/
def M3 (K : PySem.W.Frag) (l s : Addr) : Addr → Prop := fun a => a = l ∨ a = s ∨ a = tab_law K
structure Std (K : PySem.W.Frag) (l s : Addr) (n : Nat) (H : Hp) : Prop where
  st : StA l s n H
  t1 : TabS H (tab_law K) Q1
theorem Std.ex {l s : Addr} {n : Nat} {H H1 : Hp} (d : Std K l s n H) (e : Ex H H1) : Std K l s n H1 := ⟨d.st.ex e, d.t1.ext e⟩
theorem Std.mono {l s : Addr} {n m : Nat} {H : Hp} (d : Std K l s n H) (h : n ≤ m) : Std K l s m H := ⟨d.st.mono h, d.t1⟩
theorem Std.ms {l s : Addr} {n m : Nat} {H H1 : Hp} (d : Std K l s n H) (e : ExM (Ms l s) H H1) (st : StA l s m H1) : Std K l s m H1 := ⟨st, tab_ms d.t1 d.st e⟩
theorem Std.tb1 {l s : Addr} {n : Nat} {H H1 : Hp} (d : Std K l s n H) (e : ExM (fun a => a = tab_law K) H H1) (t : TabS H1 (tab_law K) Q1) : Std K l s n H1 := ⟨st_tb d.st d.t1 e, t⟩
theorem Std.has {l s : Addr} {n : Nat} {H : Hp} (d : Std K l s n H) : ∀ a, M3 K l s a → H a ≠ none := fun a m => by
  rcases m with rfl | rfl | rfl
  · exact d.st.has _ (.inl rfl)
  · exact d.st.has _ (.inr rfl)
  · exact tab_no d.t1
def spLaw (K : PySem.W.Frag) : Sp := fun vs H Q _ => ∃ (a : Addr) (ns : List Int), vs = [.ref a] ∧ SqL K H a (ns.map V.int) ∧ TabS H (tab_law K) Q1 ∧ ∀ H', Q (.bl true) H'
theorem ab_ok : WayM.Ok ⟨[], "ab", []⟩ := ⟨⟨(fun q m => nomatch m), by decide⟩, by decide +kernel, by show ("ab" : Str).length ≤ 1000; decide +kernel, by decide⟩
theorem fo_law (S : Env P w K mg base) {fd : FuncData} (F : FunD K d_law.name d_law.qual d_law.params d_law.body d_law.scope [] [] (He.fAd K d_law.at_) fd) : FnOk P w K mg base (L2.CX P w) 11 (He.fAd K d_law.at_) fd ["script"] (spLaw K) := fun_okC F sc_law (fun vs H Q E ⟨_, _, e, _⟩ => by rw [e]; rfl) fun A outer s H vs Q E hr h => by
  have nd := sc_law.nd
  obtain ⟨f_law_met, F_law_met⟩ := S.fun__law_met
  refine ⟨_, (pss_cons (ps_set (i := 1) nd rfl (by first | exact Or.inl rfl | exact Or.inr rfl) (pe_cl (cl__law_start S) hr (by decide) pass_none (by rfl) (pa_cons (pv 0) pa_nil)))
    (pss_cons (ps_for (passes_of rfl) rfl (pi_range1 rfl S.free_range (pa_cons pe_int pa_nil)) (pg_name (i := 2) nd rfl (by first | exact Or.inl rfl | exact Or.inr rfl))
    (pss_cons (ps_asg (pe_cl (cl__law_b_case S) hr (by decide) pass_none (by rfl) (pa_cons (pv 1) (pa_cons (pe_ix (r := rIxL K) ix_list (pe_lst (pa_cons pe_int (pa_cons pe_int (pa_cons pe_int (pa_cons pe_int (pa_cons pe_int (pa_cons pe_int pa_nil))))))) (pv 2) (fun _ _ => rfl)) (pa_cons (pe_ix (r := rIxL K) ix_list (pe_lst (pa_cons pe_int (pa_cons pe_int (pa_cons pe_int (pa_cons pe_int (pa_cons pe_int (pa_cons pe_int pa_nil))))))) (pv 2) (fun _ _ => rfl)) pa_nil)))) (pg_tupK (K := K) (n := 3) rfl rfl (pgs_cons (pg_name (i := 3) nd rfl (by first | exact Or.inl rfl | exact Or.inr rfl)) (pgs_cons (pg_name (i := 4) nd rfl (by first | exact Or.inl rfl | exact Or.inr rfl)) (pgs_cons (pg_name (i := 5) nd rfl (by first | exact Or.inl rfl | exact Or.inr rfl)) pgs_nil)))))
    (pss_one (ps_if (pt_not (pt_val (pe_cl (cl__law_hangs_right S) hr (by decide) pass_none (by rfl) (pa_cons (pv 1) (pa_cons (pv 3) (pa_cons (pv 4) (pa_cons (pv 5) pa_nil))))))) (pss_one (ps_ret pe_bl)) pss_nil))))
    (pss_cons (ps_for (passes_of rfl) rfl (pi_tupK (K := K) rfl (pe_tup (pa_cons pe_non (pa_cons pe_int (pa_cons (pv 4) (pa_cons (pv 5) (pa_cons pe_dnewK (pa_cons (pe_mc (mc_Book S) hr (by decide) pass_none (by rfl) (pa_cons (pv 3) pa_nil)) pa_nil)))))))) (pg_name (i := 6) nd rfl (by first | exact Or.inl rfl | exact Or.inr rfl))
    (pss_one (ps_if (pt_not (pt_val (pe_cl (cl7_same S) hr (by decide) pass_none (by rfl) (pa_cons (pe_lamB (k := 7) (TT := TTmet K) (g := He.ga K "_law_met") (by rfl) S.glo__law_met F_law_met (F_law_met.bindsN fun _ _ _ _ _ _ us hl => match us, hl with | [_], _ => rfl) sc__law_met rfl (by first | exact Or.inl rfl | exact Or.inr (Or.inl rfl) | exact Or.inr (Or.inr rfl)) (fun cdv => met_gives S cdv) S.tab_law rfl (hr.mono (by decide)) (lamS_by (sc := defScope s_law) (by decide +kernel)) rfl (fun _ _ _ _ _ => rfl) (fun A outer s H E f c' hr2 => (pe_cl (cl_hangs S) hr2 (by decide) (passes_call (takes_of rfl rfl rfl rfl) fun _ _ _ _ h => h) (by rfl) (pa_cons (pv 6) pa_nil)))) (pa_cons (pe_tup (pa_cons pe_str (pa_cons (pv 6) pa_nil))) pa_nil))))) (pss_one (ps_ret pe_bl)) pss_nil)))
    (pss_one (ps_ret (pe_cl (cl7_same S) hr (by decide) pass_none (by rfl) (pa_cons (pe_cl (cl_hangs S) hr (by decide) pass_none (by rfl) (pa_cons (pe_mc (mc_Way S) hr (by decide) pass_none (by rfl) (pa_cons (pe_mc (mc_Book S) hr (by decide) pass_none (by rfl) (pa_cons (pe_lst pa_nil) pa_nil)) (pa_cons pe_str (pa_cons (pe_lst pa_nil) pa_nil)))) pa_nil)) (pa_cons (pe_lst pa_nil) pa_nil)))))))), ?_⟩
  obtain ⟨a, ns, rfl, hs, tb1, hQ⟩ := h
  refine wp_asg ?_
  refine ⟨_, rfl, a, ns, rfl, hs, fun l s H1 e1 hl hsn ne st => ?_⟩
  have d0 : Std K l s 0 H1 := ⟨st, tb1.ext e1⟩
  have kn : Kn (M3 K l s) (fun _ => none) H1 (fun _ => none) H1 := Kn.startM (fun a o h => nomatch h) (fun _ _ => rfl) d0.has
  refine q_for kn (wk_rng1 (n := 6) (da_cons d_int da_nil) ⟨by omega, by omega⟩) (fun i σ' F' H' => (∃ y2 y3 y4 y5 y6, σ' = [some (.ref a), some (.ref l), y2, y3, y4, y5, y6] ∧ (i = 0 ∨ ∃ (m : WayM) (r t : V), CaseB m ∧ y3 = some r ∧ y4 = some (.str m.z) ∧ y5 = some t ∧ Dt F' r (rulesD m.rs) ∧ Dt F' t (stepsD m.ss))) ∧ Std K l s (4000 * i) H') ?_ ?_ ?_ ?_
  · intro F2 H2 s2
    exact ⟨⟨_, _, _, _, _, rfl, .inl rfl⟩, d0.ex s2.ex⟩
  · rintro i σ' F' H' H2 ⟨⟨y2, y3, y4, y5, y6, rfl, hy⟩, g⟩ kn' e
    have sx := kn'.step (H1 := H2) e
    refine ⟨⟨_, _, _, _, _, rfl, ?_⟩, g.ex e⟩
    rcases hy with hy | ⟨m, r, t, h1, h2, h3, h4, h5, h6⟩
    · exact .inl hy
    · exact .inr ⟨m, r, t, h1, h2, h3, h4, h5.ex sx.ff, h6.ex sx.ff⟩
  · rintro i d y σ' F' H' hi kn' eF hd ⟨⟨y2, y3, y4, y5, y6, rfl, _⟩, g⟩ N hN
    replace hi : (rngD 0 6)[i]? = some d := hi
    have il : i < 6 := by
      have z := (List.getElem?_eq_some_iff.mp hi).1
      rw [rngD_len] at z
      exact z
    rw [rngD_get il, Int.zero_add] at hi
    cases hi
    cases hd.int_
    obtain ⟨na, nb, ha, hb, ta, tb⟩ := turn_at il
    refine wp_asgG (gm_call (na, nb) (fun a m => m.elim .inl fun z => .inr (.inl z)) kn' g.st (by show 4000 * i + 470 ≤ _; omega) rfl (fun H1 e1 Q q => ?_) mo_cs fun v F2 H2 s2 m2 st2 hv => ?_)
    · refine da_cons (d := .int (na : Nat)) (d_ixL (d_lst (da_cons d_int (da_cons d_int (da_cons d_int (da_cons d_int (da_cons d_int (da_cons d_int da_nil)))))) (by show 6 ≤ 100000; decide)) (d_var rfl (.int _)) (atI_nat ta)) (da_cons (d := .int (nb : Nat)) (d_ixL (d_lst (da_cons d_int (da_cons d_int (da_cons d_int (da_cons d_int (da_cons d_int (da_cons d_int da_nil)))))) (by show 6 ≤ 100000; decide)) (d_var rfl (.int _)) (atI_nat tb)) da_nil) H1 e1 _ fun xs H8 e8 hx => ?_
      obtain ⟨x1, r1, rfl, y1, hx⟩ := hx.cons_
      obtain ⟨x2, rfl, y2⟩ := da1_ hx
      cases y1.int_
      cases y2.int_
      exact q _ H8 e8 ⟨ha, hb, rfl⟩
    obtain ⟨⟨rs, z, ss⟩, cs, hv⟩ := hv
    obtain ⟨p, xs, rfl, hp, hxs⟩ := hv.tuple_
    obtain ⟨x1, x2, x3, rfl, h1, h2, h3⟩ := da3_ hxs
    cases h2.str_
    replace cs : CaseB ⟨rs, z, ss⟩ := cs
    replace h1 : Dt F2 x1 (rulesD rs) := h1
    replace h3 : Dt F2 x3 (stepsD ss) := h3
    have d2 : Std K l s (4000 * i + 470) H2 := g.ms m2 st2
    refine ⟨p, _, rfl, SqT.of (s2.kn.fh _ _ hp), rfl, x1, [.str z, x3], rfl, .str z, [x3], rfl, x3, [], rfl, rfl, ?_⟩
    refine wp_ifE (wp_not' (wp_B' ?_))
    refine gm_call (⟨rs, z, ss⟩ : WayM) (fun a m => m.elim .inl fun z => .inr (.inl z)) s2.kn d2.st (by show 4000 * i + 470 + 3300 ≤ _; omega) rfl (fun H4 e4 _ q => ⟨x1, rfl, .str z, rfl, x3, rfl, q _ H4 (Ex.refl _) ⟨cs, x1, x3, rfl, h1.ex (ex_nw e4), h3.ex (ex_nw e4)⟩⟩) (mo_dt _) fun u F5 H5 s5 m5 st5 hu => ?_
    cases hu.bool_
    refine ⟨true, rfl, ?_⟩
    show (if (!true) = true then _ else _)
    rw [if_neg (by decide)]
    refine wp_next ?_
    exact hN _ F5 H5 s5.kn (s2.ff.trans s5.ff) ⟨⟨_, _, _, _, _, rfl, .inr ⟨⟨rs, z, ss⟩, x1, x3, cs, rfl, rfl, rfl, h1.ex s5.ff, h3.ex s5.ff⟩⟩, (d2.ms m5 st5).mono (by show 4000 * i + 470 + 3300 ≤ 4000 * (i + 1); omega)⟩
  · rintro σ' F' H' kn' eF ⟨⟨y2, y3, y4, y5, y6, rfl, hy⟩, g⟩
    have hy' := hy.resolve_left (by show ¬ (rngD 0 6).length = 0; rw [rngD_len]; decide)
    obtain ⟨⟨rs, z, ss⟩, r, t, cs, rfl, rfl, rfl, hr', ht⟩ := hy'
    replace cs : CaseB ⟨rs, z, ss⟩ := cs
    replace hr' : Dt F' r (rulesD rs) := hr'
    replace ht : Dt F' t (stepsD ss) := ht
    have sl : ss.length ≤ 60 := cs.sl
    refine for_tup (kp_ev kn' (pb_tup (C := CB K) (rs := rs) (ds := [.none, .int 5, .str z, stepsD ss, .dict []]) (pb_cons d_non (pb_cons d_int (pb_cons (d_var rfl (.str _)) (pb_cons (d_var rfl ht) (pb_cons d_dnew (pb_nil (p_make rs (fun H1 e Q q => (da_cons (d_var rfl hr') da_nil) H1 e _ fun vs H2 e2 hv => by
      obtain ⟨x, rfl, hx⟩ := da1_ hv
      exact q [x] H2 e2 ⟨cs.b.ok, x, rulesD rs, rfl, hx, lo_rules rs⟩) (BookAt.mo _ _)))))))) (by show 5 ≤ _; decide)) _ fun v F2 H2 s2 ⟨b, hb, hv⟩ => ?_)
    have d2 := g.ex s2.ex
    refine q_for s2.kn (wk_tup (d_cv hv)) (fun i σ' F' H' => (∃ y6, σ' = [some (.ref a), some (.ref l), y2, some r, some (.str z), some t, y6]) ∧ Std K l s (4000 * (rngD 0 (6 : Int).toNat).length) H') ?_ ?_ ?_ ?_
    · intro F3 H3 s3
      exact ⟨⟨_, rfl⟩, d2.ex s3.ex⟩
    · rintro i σ' F' H' H2 ⟨hσ, g1⟩ kn' e
      exact ⟨hσ, g1.ex e⟩
    · rintro i d x σ' F3 H3 hi kn3 eF3 hd ⟨⟨z6, rfl⟩, d3⟩ N hN
      have oo := oddW_ok S (z := z) (show ss.length ≤ 1000 by omega) b d (List.mem_of_getElem? hi)
      refine wp_ifE (wp_not' (wp_B' (wp_call' (wp_cons (lam_bad (z := x) (C := He.ga K "BadWay") (f := "thing") (kd := "way") ⟨rfl, rfl, rfl⟩ (.inr (.inr rfl)) kn3 d3.t1 (pa_v1 rfl ⟨⟨x, rfl, ⟨d, hd, oo.ty, oo.way⟩, rfl⟩, rfl, rfl⟩ badw_mo) fun p1 F4 H4 s4 m4 tab4 hp1 => wp_cons ?_)))))
      have d4 := d3.tb1 m4 tab4
      refine k_ev s4.kn (d_tup (ds := [.str "way", d]) (da_cons d_str (da_cons (d_var rfl (hd.ex s4.ff)) da_nil)) (by show 2 ≤ 100000; decide)) _ fun v5 F5 H5 s5 h5 => wp_nil ?_
      refine ⟨F5, .ref p1, v5, .tuple [.str "way", d], some (b, CB K), rfl, s5.kn.fh, .tup (s5.ff _ _ hp1) (.cons (.str _) (.cons ((hd.ex s4.ff).ex s5.ff) .nil)), h5, ?_, ?_, ?_, fun H6 e6 => ⟨true, rfl, ?_⟩⟩
      · exact okTuple (by show 2 ≤ _; decide) fun e q => by
          simp only [List.mem_cons, List.not_mem_nil, or_false] at q
          rcases q with rfl | rfl
          · unfold okD; trivial
          · exact oo.ok
      · intro p hp
        cases hp
        exact .inl ⟨rfl, rs, cs.b, BookAt.mo _ _ _ _ _ ((eF3.trans s4.ff).trans s5.ff) hb⟩
      · exact Nat.lt_of_le_of_lt (dpTuple (n := 3) fun e q => by
          simp only [List.mem_cons, List.not_mem_nil, or_false] at q
          rcases q with rfl | rfl
          · unfold dpS; decide
          · exact oo.dp) (by decide)
      · show (if (!true) = true then _ else _)
        rw [if_neg (by decide)]
        refine wp_next ?_
        have s6 := s5.kn.step e6
        exact hN _ _ H6 s6.kn ((s4.ff.trans s5.ff).trans s6.ff) ⟨⟨_, rfl⟩, (d4.ex s5.ex).ex e6⟩
    · rintro σ' F3 H3 kn3 eF3 ⟨⟨z6, rfl⟩, d3⟩
      refine kp_ev kn3 (EvD.toP (d_same (o := none) (d := hungD ⟨[], "ab", []⟩) (rd_hangs (p_way ⟨[], "ab", []⟩ ab_ok (p_make [] (fun H1 e Q q => da_cons (d := rulesD []) (d_lst (ds := []) da_nil (by decide)) da_nil H1 e _ fun vs H2 e2 hv => by
        obtain ⟨x, rfl, hx⟩ := da1_ hv
        exact q [x] H2 e2 ⟨⟨(fun q m => nomatch m), by decide⟩, x, rulesD [], rfl, hx, lo_rules []⟩) (BookAt.mo _ _)) d_str (d := stepsD []) (d_lst (ds := []) da_nil (by decide)) (lo_steps [])) ab_ok) (d_lst (ds := []) da_nil (by decide)) (okHung (m := ⟨[], "ab", []⟩) (by show 0 ≤ 1000; decide)) (fun _ h => nomatch h) (dpHung _))) _ fun v F4 H4 s4 hv => ?_
      replace hv : Dt F4 v (.bool true) := hv
      cases hv.bool_
      exact hQ H4
end
end K10
namespace K10
open PySem PySem.Spec PyProof.Rows L2 Evl WB
abbrev R : PySem.W.OpenRow := PySem.W.OpenLaw.row PySem.Challenge.rw_waysback_k10_whole_what_hangs_on_what
abbrev hk : PySem.W.Hook := He.hookX 6 fa fn [] tf ex
def ob (s : PySem.W.SharedT) : He.AlX := He.obsX 6 fa fn [] tf ex (HandSHeadRun.getT s)
theorem ob_eq (s : PySem.W.SharedT) : ob s = hk.obs s.abs := He.obsX_eq (HandSHeadRun.getT_eq s)
theorem run (w : World) : HandSHeadRun.RunEq R (PySem.W.view R.prog [64]) hk ob 20000 names w := by
  intro os
  kernel_rfl
end K10
namespace K10
open PySem PySem.Spec PyProof.Rows L2 Evl WB
/-- a promise that asks nothing of errors holds without them -/
theorem fn0 {P : Program} {w : World} {K : PySem.W.Frag} {mg : Str → Option Value} {base : Heap} {k : Nat} {f : Addr} {fd : FuncData} {ps : List Str} {sp : Sp} (F : FnOk P w K mg base (L2.CX P w) k f fd ps sp) (h : ∀ vs H Q E E', sp vs H Q E → sp vs H Q E') : FnOk P w K mg base CX0 k f fd ps sp :=
  ⟨F.len, fun A outer s H args us vs Q E r e0 b v hs => codeAny_mono (F.run A outer s H args us vs Q (fun _ _ _ => False) r e0 b v (h _ _ _ _ _ hs)) fun r s' hr => by
    cases r with
    | ok fl =>
      cases fl with
      | ret u => exact hr
      | next => exact hr
      | brk => exact hr
      | cont => exact hr
    | error e =>
      obtain ⟨_, _, _, _, _, _, _, _, _, _, _, _, z⟩ := hr
      exact z.elim⟩
theorem facts {P : Program} {w : World} {K : PySem.W.Frag} {h : Heap} {mg : Str → Option Value} {f : Addr} (X : K.In h) (G : h.Ns mainGlobals mg) (hfa : mg ("law" : Str) = some (.ref f)) (c : He.SaysD fa fn K) (e : ex K = true) :
    ∃ fd : FuncData, (∀ (s : Shared) (v : Value), BindsTo s fd ⟨[v], []⟩ [("script", v)]) ∧ ∀ base : Heap, K.In base → base.Ns mainGlobals mg → (∀ p ∈ tf.map (He.cT K), LamX.TabB base mg p.1 p.2) → FnOk P w K mg base CX0 11 f fd ["script"] (spLaw K) := by
  have S : ∀ base : Heap, (∀ p ∈ tf.map (He.cT K), LamX.TabB base mg p.1 p.2) → Env P w K mg base := fun base tb => ⟨⟨h, X, G⟩, c, e, fun p hp => tb _ (List.mem_map.mpr ⟨p, hp, rfl⟩)⟩
  obtain ⟨fd, F⟩ := c.def_ 61 (d := d_law) rfl
  have q := hfa.symm.trans (He.glo_ok X G (c.fact 46 rfl))
  cases q
  have b := FunD.bindsA (ps := ["script"]) F fun _ _ _ _ _ _ us hl => match us, hl with | [_], _ => rfl
  exact ⟨fd, fun s v => b s [v] rfl, fun base _ _ tb => fn0 (fo_law (S base tb) F) fun vs H Q E E' q => q⟩
theorem tabs_at {K : PySem.W.Frag} {H : Hp} (h : ∀ p ∈ tf.map (He.cT K), H p.2 = some (.tbl #[])) : ∀ p ∈ tf, H (He.cT K p).2 = some (.tbl #[]) := fun p hp => h _ (List.mem_map.mpr ⟨p, hp, rfl⟩)
end K10
open PySem PySem.W PySem.Calls PyProof.Rows
theorem PySem.Challenge.cw_waysback_k10_whole_what_hangs_on_what_holds : PySem.Challenge.rw_waysback_k10_whole_what_hangs_on_what.Holds := by
  w_on; o_law
  refine HandSHeadRun.head_any (r := OpenLaw.row PySem.Challenge.rw_waysback_k10_whole_what_hangs_on_what) (q := view (OpenLaw.row PySem.Challenge.rw_waysback_k10_whole_what_hangs_on_what).prog [64]) (H := K10.hk) (ob := K10.ob) (M := 20000) (loose := K10.names) (d := HandSHeadRun.topDef (OpenLaw.row PySem.Challenge.rw_waysback_k10_whole_what_hangs_on_what).prog 64) (kwd := []) K10.ob_eq
    (by kernel_rfl) (fun s => by kernel_rfl) K10.run (by kernel_rfl) (by kernel_rfl) (by kernel_rfl) (by rfl) (by first | assumption | decide +kernel) (by decide +kernel) ⟨rfl, rfl, rfl, rfl, rfl, by decide +kernel⟩ ?hw ?hc
  case hw => w_witness2
  case hc =>
    refine LamX.walk_ofTsE (l := PySem.Challenge.rw_waysback_k10_whole_what_hangs_on_what) (n := 63) (k := 11) (x := "script") (CX := fun _ => L2.CX0) rfl (by decide) (by kernel_rfl) ⟨rfl, by decide, by decide⟩ ?F (fun _ _ _ _ _ z => z)
    intro w mg fa h Y G hmg0
    obtain ⟨K, KX, c⟩ := Y
    have hmg : mg ("law" : PySem.Str) = some (.ref fa) := by
      have e : (HandSHeadRun.topDef (OpenLaw.row PySem.Challenge.rw_waysback_k10_whole_what_hangs_on_what).prog 64).name = ("law" : PySem.Str) := by kernel_rfl
      rw [← e]
      exact hmg0
    obtain ⟨fd, hb, hF⟩ := K10.facts (P := (PySem.Challenge.rw_waysback_k10_whole_what_hangs_on_what).prog) (w := w) KX G hmg c.t.d c.more
    refine ⟨K, KX, fd, K10.tf.map (He.cT K), K10.spLaw K, ?_, ?_, ?_, hb, fun H a ns hl _ hH hS => ⟨a, ns, rfl, hS, LamX.TabS.nil (K10.tabs_at hH ("law", none) (by simp [K10.tf])), fun _ => rfl⟩, hF⟩
    · intro p hp
      obtain ⟨q, hq, rfl⟩ := List.mem_map.mp hp
      exact c.empty q hq
    · intro p hp
      obtain ⟨q, hq, rfl⟩ := List.mem_map.mp hp
      exact c.out q hq
    · intro p hp
      obtain ⟨q, hq, rfl⟩ := List.mem_map.mp hp
      exact PySem.W.codeHd_of_K KX (c.hd q hq)
