import PyProof.Rows.All
import Wide.All
import OpenK.AllK
import Wide.FinOn
import HandS.ForMost
import HandS.Wide
import HandS.WideBits
import HandS.RaiseMore
import HandS.Star
import HandS.ClsMeth
import HandS.IsInst
import HandS.Zip
import HandS.TupAny
import HandS.Property
import HandS.Walk
import KE.GoesEnum
import OpenK.KMeth
import KE.KOpsOwn
import PyProof.InstNe
import KE.KDictItemsList
import KE.KDictZip
import HandS.Gcd
import PyProof.ReprRoads
import HandS.Small
import PyProof.Rows.ReprOcc
import HandS.Style
import PyProof.Rows.IntBool
import HandS.Conv
import PySem.Challenge.RW_rulerkeep_k22_broken_ages_of_any_value
set_option Elab.async false
set_option linter.all false
set_option maxRecDepth 100000
namespace Rk
open PySem PySem.Spec PyProof.Rows L2

/-! ### powers of great bases -/
def CPowB (i j : Int) : Prop := 0 ≤ j ∧ (Builtin.Int.intBits i : Int) * j ≤ 2 ^ 27
section
variable {X : Cx}
theorem op_powB : OpR X (binaryOp .Pow) (rI CPowB fun i j => .int (i ^ j.toNat)) :=
  opI fun _ _ _ _ _ _ _ hc q => pow_int hc.1 hc.2 q

/-! ### repr of plain values -/
def plainD : V → Option PyData
  | .non => some .none
  | .bl b => some (.bool b)
  | .int i => some (.int i)
  | .str x => some (.str x)
  | _ => none
theorem call_repr0 : CallR X (.builtin "repr") (fun xs H Q => ∃ x d, xs = [x] ∧ plainD x = some d ∧ d.showable = true ∧ d.shown.length ≤ sizeLine ∧ Q (.str d.shown) H) := by
  intro pins s σ H xs us Q I r h
  obtain ⟨x, d, rfl, hd, hs, hl, q⟩ := h
  obtain ⟨u, rfl, rx⟩ := vals1 r
  cases x with
  | non =>
    cases rx
    cases hd
    exact PySem.P.repr_of_none ⟨.str _, H, I.tok _, ⟨_, rfl⟩, q⟩
  | bl b =>
    cases rx
    cases hd
    exact PySem.P.repr_of_bool ⟨.str _, H, I.tok _, ⟨_, rfl⟩, q⟩
  | int i =>
    obtain ⟨t, rfl⟩ := rx
    cases hd
    exact PySem.P.repr_of_int (by simpa [PyData.showable] using hs) ⟨.str _, H, I.tok _, ⟨_, rfl⟩, q⟩
  | str z =>
    obtain ⟨t, rfl⟩ := rx
    cases hd
    exact PySem.P.repr_of_str (hsz := hl) ⟨.str _, H, I.tok _, ⟨_, rfl⟩, q⟩
  | _ => cases hd
end
end Rk
namespace Rk
open PySem PySem.Spec PyProof.Rows L2

/-! ### defs that are called where no repr is under way: with that, repr of tuples and lists is known -/
structure FnG (P : Program) (w : World) (K : PySem.W.Frag) (mg : Str → Option Value) (base : Heap) (k : Nat) (f : Addr) (fd : FuncData) (ps : List Str) (sp : Sp) : Prop where
  len : ∀ vs H Q E, sp vs H Q E → vs.length = ps.length
  run : ∀ (A : Around) (outer : List Env) (s : Shared) (H : Hp) (args : Args) (us : List Value) (vs : List V) (Q : VK) (E : XK), A.guards = some [] →
    Room k A → Env0 P w K mg base A outer s H → BindsTo s fd args (ps.zip us) → Vals vs us → sp vs H Q E →
    codeAny (model P w) A (.call (.ref f) args) (CR CX0 outer P w H s Q E) s
section
variable {P : Program} {w : World} {K : PySem.W.Frag} {mg : Str → Option Value} {base : Heap} {k : Nat} {f : Addr} {fd : FuncData} {ps N : List Str} {sp : Sp}
theorem FnG.of (F : FnOk P w K mg base CX0 k f fd ps sp) : FnG P w K mg base k f fd ps sp :=
  ⟨F.len, fun A o s H a us vs Q E _ => F.run A o s H a us vs Q E⟩
theorem FnG.mono {j : Nat} (F : FnG P w K mg base j f fd ps sp) (h : j ≤ k) : FnG P w K mg base k f fd ps sp :=
  ⟨F.len, fun A o s H a us vs Q E hg hr => F.run A o s H a us vs Q E hg (hr.mono h)⟩

theorem FnG.body {x qual : Str} {st : Stmt} (F : Fun K x qual st f fd) (S : FnScope N ps (defScope st)) (len : ∀ vs H Q E, sp vs H Q E → vs.length = ps.length)
    (bd : ∀ (cdv : Value) (A : Around) (outer : List Env) (s : Shared) (H : Hp) (vs : List V) (Q : VK) (E : XK), A.guards = some [] → Room k (A.deeper (envOfC qual (defScope st) s.heap.objs.size f cdv)) → sp vs H Q E →
      ∃ t, PSs (cxOf CX0 P w K mg base N qual (defScope st) f cdv A outer s H E).nox (defBody st) t ∧ t { nx := fun _ H' => Q .non H', rt := Q } (start N vs) H) :
    FnG P w K mg base (k + 1) f fd ps sp := by
  obtain ⟨oc, od, kV, doc, pm, an, cdv, ct, osl, efd, lk, hcd⟩ := F.ex
  subst efd
  refine ⟨len, ?_⟩
  intro A outer s H args us vs Q E gd hr e0 hb r hsp
  have kin : K.In s.heap := e0.mod.kin.keeps (fun b o e => And.left (e0.bs b o e))
  have nol : s.heap.NoLimit := e0.mod.nolimit.keeps (fun b o e => And.left (e0.bs b o e))
  have kinds : ∀ y ∈ ps.zip us, (defScope st).names.lookup y.1 = some .local ∨ ((defScope st).names.lookup y.1 = some .cell ∧ ((cellsFrom (s.heap.objs.size + 1) (defScope st).names []).lookup y.1).isSome = true) := by
    rintro ⟨n, v⟩ hy
    rcases S.par n (List.of_mem_zip hy).1 with q | q
    · exact Or.inl q
    · exact Or.inr ⟨q, PySem.W.cellsFrom_some _ _ _ (Or.inl q)⟩
  refine codeAny_call_function hr.depth (kin _ _ lk) rfl S.co S.gen rfl (PySem.W.codeRec_of kin hcd) (hb _ _ _ _ (wpAny_newFunctionEnv_cells S.kind kinds ?_))
  intro env he s1 x
  subst he
  refine ⟨nol.keeps x.toInCall.keep, codeAny_func ?_⟩
  obtain ⟨t, ht, hq⟩ := bd cdv A outer s H vs Q E gd (hr.deeper _) hsp
  have I : Inv (cxOf CX0 P w K mg base N qual (defScope st) f cdv A outer s H E) [] (start N vs) H s1 := inv_start S hr.hd e0 (len _ _ _ _ hsp) r x
  refine wpAny_mono (ht.nox.run [] s1 (start N vs) H _ I hq) ?_ (fun _ _ z => z)
  intro fl s' hs
  cases fl with
  | brk => exact hs.elim fun _ z => z.elim fun _ z => z.2.elim
  | cont => exact hs.elim fun _ z => z.elim fun _ z => z.2.elim
  | next =>
    obtain ⟨σ', H', J, q⟩ := hs
    exact ⟨V.non, H', J.os, J.bare, J.base, J.hok, rfl, q⟩
  | ret u =>
    obtain ⟨v, σ', H', J, rv, q⟩ := hs
    exact ⟨v, H', J.os, J.bare, J.base, J.hok, rv, q⟩
end

/-! ### a def of the text by its name -/
structure Df (K : PySem.W.Frag) (mg : Str → Option Value) (x : Str) (st : Stmt) (ps : List Str) : Prop where
  ex : ∃ (f : Addr) (fd : FuncData), Fun K x x st f fd ∧ mg x = some (.ref f) ∧ Binds K fd ps []
/-- the def of this name keeps the promise -/
def Has (P : Program) (w : World) (K : PySem.W.Frag) (mg : Str → Option Value) (base : Heap) (k : Nat) (x : Str) (ps : List Str) (sp : Sp) : Prop :=
  ∃ (f : Addr) (fd : FuncData), mg x = some (.ref f) ∧ PySem.W.keepIn K (.ref f) = true ∧ Binds K fd ps [] ∧ FnG P w K mg base k f fd ps sp
section
variable {P : Program} {w : World} {K : PySem.W.Frag} {mg : Str → Option Value} {base : Heap} {k : Nat} {x : Str} {ps N : List Str} {sp : Sp} {st : Stmt}
theorem Df.has (D : Df K mg x st ps) (S : FnScope N ps (defScope st)) (len : ∀ vs H Q E, sp vs H Q E → vs.length = ps.length)
    (bd : ∀ (f : Addr) (cdv : Value) (A : Around) (outer : List Env) (s : Shared) (H : Hp) (vs : List V) (Q : VK) (E : XK), A.guards = some [] → Room k (A.deeper (envOfC x (defScope st) s.heap.objs.size f cdv)) → sp vs H Q E →
      ∃ t, PSs (cxOf CX0 P w K mg base N x (defScope st) f cdv A outer s H E).nox (defBody st) t ∧ t { nx := fun _ H' => Q .non H', rt := Q } (start N vs) H) :
    Has P w K mg base (k + 1) x ps sp := by
  obtain ⟨f, fd, F, m, b⟩ := D.ex
  exact ⟨f, fd, m, F.kp, b, FnG.body F S len (bd f)⟩
end

section
variable {X : Cx} {k : Nat} {ps : List Str} {sp : Sp} {x : Str} {p pos : Pos} {e : Expr} {es : List Expr} {t : TA}
/-- f(e, ..), f a def of the text -/
theorem pe_has (h : Has X.prog X.w X.K X.mg X.base k x ps sp) (hg : X.A.guards = some []) (hr : Room k X.A) (gx : Gl X x) (ha : PA X (e :: es) t) (hdb : (x == ("__debug__" : Str)) = false := by decide)
    (he : starEach (e :: es) X.env = (false, eval e X.env) :: starEach es X.env := by rfl) (hpl : (backTo pos (starEach es X.env)).any (·.1) = false := by rfl) :
    PE X (.Call (.Name x p) (e :: es) [] pos) (tCall sp [] E0 t) := by
  obtain ⟨f, fd, m, kp, b, F⟩ := h
  constructor
  intro pins s σ H Q I hq
  refine wpAny_Call_Name_kw (ld_glob I gx m ?_ hdb)
  refine PySem.W.callWith_K (h₀ := X.base) I.ok.mod.kin kp (thn (ha.run pos pins s σ H _ I hq) ?_) he hpl
  rintro us s1 ⟨vs, H1, I1, r, q⟩
  refine ⟨I1.kIn, ?_⟩
  have q' : sp vs H1 Q E0 := by
    rw [List.append_nil] at q
    exact q
  have hl : us.length = ps.length := r.length.symm.trans (F.len _ _ _ _ q')
  have hb := b s1 us I1.kIn (by rw [List.append_nil]; exact hl)
  rw [List.append_nil] at hb
  refine wpAny_call (codeAny_mono (F.run X.A X.stack s1 H1 ⟨us, []⟩ us vs Q E0 hg hr I1.env0 hb r q') ?_)
  intro res s' z
  cases res with
  | error e => exact z.elim
  | ok fl =>
    cases fl with
    | ret u => exact I1.after z
    | _ => exact z.elim
end

/-! ### repr of data -/
section
variable {X : Cx}
def rRepr (K : PySem.W.Frag) : List V → Hp → VK → Prop := fun xs H Q => ∃ x d, xs = [x] ∧ Dp K H x d ∧ d.showable = true ∧ d.hasDict = false ∧ d.depth ≤ 60 ∧ d.shown.length ≤ sizeLine ∧ Q (.str d.shown) H
theorem call_reprD (hg : X.A.guards = some []) (hu : X.A.units + 64 < cLine) : CallR X (.builtin "repr") (rRepr X.K) := by
  intro pins s σ H xs us Q I r h
  obtain ⟨x, d, rfl, hd, hs, hn, hdp, hl, q⟩ := h
  obtain ⟨u, rfl, rx⟩ := vals1 r
  cases hd with
  | non =>
    cases rx
    exact PySem.P.repr_of_none ⟨.str _, H, I.tok _, ⟨_, rfl⟩, q⟩
  | bl b =>
    cases rx
    exact PySem.P.repr_of_bool ⟨.str _, H, I.tok _, ⟨_, rfl⟩, q⟩
  | int i =>
    obtain ⟨t, rfl⟩ := rx
    exact PySem.P.repr_of_int (by simpa [PyData.showable] using hs) ⟨.str _, H, I.tok _, ⟨_, rfl⟩, q⟩
  | str z =>
    obtain ⟨t, rfl⟩ := rx
    exact PySem.P.repr_of_str (hsz := hl) ⟨.str _, H, I.tok _, ⟨_, rfl⟩, q⟩
  | lst h1 h2 =>
    obtain ⟨as, rd⟩ := Dp.reads I _ _ _ (.lst h1 h2) rx
    cases rx
    exact repr_of_reads' rd hs (PyData.noDict_hsm hn) hg (by omega) (fun _ _ e => e) (fun h' u tk hk => ⟨.str _, H, I.kept (t' := tk) hk, ⟨_, rfl⟩, q⟩) hl
  | tup h1 h2 =>
    obtain ⟨as, rd⟩ := Dp.reads I _ _ _ (.tup h1 h2) rx
    cases rx
    exact repr_of_reads' rd hs (PyData.noDict_hsm hn) hg (by omega) (fun _ _ e => e) (fun h' u tk hk => ⟨.str _, H, I.kept (t' := tk) hk, ⟨_, rfl⟩, q⟩) hl
end
end Rk
namespace Rk
open PySem PySem.Spec PyProof.Rows L2

/-! ### the law's own call -/
/-- from a heap H that tracks the script at most -/
theorem enterG {P : Program} {w : World} {K : PySem.W.Frag} {mg mb : Str → Option Value} {k : Nat} {fa a : Addr} {nm x : Str} {sp : Sp} {s₁ : Shared} {vs : List Value} {H : Hp}
    (KX : K.In s₁.heap) (hns : s₁.heap.Ns mainGlobals mg) (hb : s₁.heap.Ns builtinsNs mb) (hbb : ∀ x : Str, x ≠ "__name__" → mb x = bootBuiltins x) (hlim : s₁.heap.NoLimit) (hg : s₁.gens = #[])
    (ha : s₁.heap.get? a = some { cls := .type "list", data := .seq vs.toArray }) (hr : Room k callerA)
    (F : ∀ base : Heap, K.In base → base.Ns mainGlobals mg → Has P w K mg base k nm [x] sp) (hfa : mg nm = some (.ref fa))
    (hO : Only H) (ok : HOk P w H s₁.heap) (hA : ∀ b, H b ≠ none → b = a) (hK : H a ≠ none → K.lookup a = none) (hsp : sp [.ref a] H (fun v _ => v = .bl true) E0) :
    codeAny (model P w) callerA (.call (.ref fa) ⟨[.ref a], []⟩) (fun r s' => r = .ok (.ret (.bool true)) ∧ OldK s₁.heap s'.heap ∧ s'.os = s₁.os ∧ AllBare s'.gens) s₁ := by
  have dictFree : ∀ {b : Addr} {o : Obj} {es : Array DictEntry} {ep : Nat}, s₁.heap.get? b = some o → o.data = .dict es ep → H b = none := by
    intro b o es ep e d
    cases q : H b with
    | none => rfl
    | some u =>
      have z := hA b (by rw [q]; simp)
      subst z
      rw [ha] at e
      cases e
      exact absurd (show Data.seq vs.toArray _ = Data.dict es ep from d) (fun z => by cases z)
  have nsH : ∀ {b : Addr} {m : Str → Option Value}, s₁.heap.Ns b m → (hidT s₁.heap H).Ns b m := by
    rintro b m ⟨o, es, ep, e, d, r⟩
    exact ⟨o, es, ep, hidT_get e (dictFree e d), d, r⟩
  have kinH : K.In (hidT s₁.heap H) := by
    intro b o e
    refine hidT_get (KX b o e) ?_
    cases q : H b with
    | none => rfl
    | some u =>
      have z := hA b (by rw [q]; simp)
      subst z
      have n := hK (by rw [q]; simp)
      rw [n] at e
      cases e
  obtain ⟨mc, l1, l2⟩ := hlim
  have e0 : Env0 P w K mg (hidT s₁.heap H) callerA [] s₁ H := by
    refine ⟨rfl, ⟨kinH, nsH hns, ⟨mb, nsH hb, hbb⟩, mc, nsH l1, l2⟩, fun b o e => of_hidT e, Nat.le_of_eq (hidT_size _ _), trivial, ?_, ok, .of_eq hg⟩
    intro b z
    exact absurd (show b ∈ ([] : List Addr) from z) (by simp)
  obtain ⟨f, fd, m, kp, bd, F1⟩ := F _ kinH (nsH hns)
  have ef := Option.some.inj (m.symm.trans hfa)
  cases ef
  have run := F1.run callerA [] s₁ H ⟨[.ref a], []⟩ [.ref a] [.ref a] _ _ rfl hr e0 (bd s₁ [.ref a] KX rfl) (.cons rfl .nil) hsp
  refine codeAny_mono run ?_
  intro r s' h
  cases r with
  | error e => exact h.elim
  | ok fl =>
    cases fl with
    | ret u =>
      obtain ⟨v, H', os, bare, un, hok', r', q⟩ := h
      have q' : v = .bl true := q
      subst q'
      obtain rfl : u = Value.bool true := r'
      refine ⟨rfl, OldK.of_keep ?_, os, bare⟩
      intro b o e
      rcases hO b with z | ⟨ob, xs, z⟩
      · exact un.keep b o e z (fun y => absurd (show b ∈ ([] : List Addr) from y) (by simp)) (by simp)
      · have z2 := un.frzs b ob _ z
        have e1 := (ok b _ z).1
        have e2 := (hok' b _ z2).1
        rw [e] at e1
        cases e1
        exact e2
    | _ => exact h.elim

theorem law_callG {P : Program} {w : World} {K : PySem.W.Frag} {mg mb : Str → Option Value} {k : Nat} {fa a : Addr} {nm x : Str} {sp : Sp} {s₁ : Shared} {vs : List Value} {ns : List Int}
    (KX : K.In s₁.heap) (hns : s₁.heap.Ns mainGlobals mg) (hb : s₁.heap.Ns builtinsNs mb) (hbb : ∀ x : Str, x ≠ "__name__" → mb x = bootBuiltins x) (hlim : s₁.heap.NoLimit) (hg : s₁.gens = #[])
    (ha : s₁.heap.get? a = some { cls := .type "list", data := .seq vs.toArray }) (hi : IntsAre vs ns) (hl : ns.length ≤ sizeLine) (hr : Room k callerA)
    (F : ∀ base : Heap, K.In base → base.Ns mainGlobals mg → Has P w K mg base k nm [x] sp) (hfa : mg nm = some (.ref fa))
    (hsp : ∀ H : Hp, Only H → SqL K H a (ns.map V.int) → sp [.ref a] H (fun v _ => v = .bl true) E0) :
    codeAny (model P w) callerA (.call (.ref fa) ⟨[.ref a], []⟩) (fun r s' => r = .ok (.ret (.bool true)) ∧ OldK s₁.heap s'.heap ∧ s'.os = s₁.os ∧ AllBare s'.gens) s₁ := by
  have rv : Vals (ns.map V.int) vs := vals_ints hi
  have lenV : vs.length = ns.length := hi.length
  cases hk : K.lookup a with
  | some o =>
    have e := KX a o hk
    rw [ha] at e
    cases e
    have O : Only (fun _ => none) := fun _ => Or.inl rfl
    refine enterG (H := fun _ => none) KX hns hb hbb hlim hg ha hr F hfa O ?_ (fun b z => absurd rfl z) (fun z => absurd rfl z) (hsp _ O (Or.inr ⟨_, vs.toArray, _, hk, rfl, rfl, rfl, ?_, ?_⟩))
    · intro b u z
      exact absurd (show (none : Option HO) = some u from z) (fun y => by cases y)
    · rw [List.size_toArray, lenV]
      exact hl
    · simpa using rv
  | none =>
    let H : Hp := fun b => if b = a then some (.frz { cls := .type "list", data := .seq vs.toArray } (.lst (ns.map V.int))) else none
    have Ha : H a = some (.frz { cls := .type "list", data := .seq vs.toArray } (.lst (ns.map V.int))) := if_pos rfl
    have Hn : ∀ b, b ≠ a → H b = none := fun b z => if_neg z
    have O : Only H := by
      intro b
      by_cases z : b = a
      · subst z
        exact Or.inr ⟨_, _, Ha⟩
      · exact Or.inl (Hn b z)
    refine enterG (H := H) KX hns hb hbb hlim hg ha hr F hfa O ?_ ?_ (fun _ => hk) (hsp _ O (Or.inl (Or.inr ⟨_, Ha⟩)))
    · intro b u z
      by_cases y : b = a
      · subst y
        rw [Ha] at z
        cases z
        exact ⟨ha, by rw [List.length_map]; exact hl, vs, _, rv, ha⟩
      · rw [Hn b y] at z
        cases z
    · intro b z
      by_cases y : b = a
      · exact y
      · exact absurd (Hn b y) z

theorem walkG {l : PySem.W.OpenLaw} {n k : Nat} {q : Program} {loose : List Str} {XP : (Str → Option Value) → Heap → Prop} {YP : World → Heap → Prop} {d : DefRec} {K : Params → PySem.W.Frag} {sp : PySem.W.Frag → Sp} {x : Str}
    (hn : l.most = some n) (hn2 : n ≤ sizeLine) (hdf : d.params.defaults = []) (hr : Room k callerA) (hY : ∀ (w : World) (h : Heap), YP w h → (K w.params).In h)
    (F : ∀ (w : World) (mg : Str → Option Value) (h : Heap), (K w.params).In h → h.Ns mainGlobals mg → ∀ base : Heap, (K w.params).In base → base.Ns mainGlobals mg → Has l.prog w (K w.params) mg base k d.name [x] (sp (K w.params)))
    (hsp : ∀ (K : PySem.W.Frag) (H : Hp) (a : Addr) (ns : List Int), ns.length ≤ n → Only H → SqL K H a (ns.map V.int) → sp K [.ref a] H (fun v _ => v = .bl true) E0) :
    PySem.W.WalkO q loose XP YP l.row.toRowW d [] (fun f vs => PySem.call f vs) := by
  refine Att.attach_call hn hdf ?_
  intro w s₀ s₁ mg mb fa o pm cd doc a vs ns G Y ho hd hcd hmg hobj hints hlen hg
  exact law_callG (hY w _ Y) G.T.g G.T.b G.T.builtins G.T.nolimit hg hobj hints (Nat.le_trans hlen hn2) hr (F w mg _ (hY w _ Y) G.T.g) hmg (fun H hO hS => hsp _ H a ns hlen hO hS)

/-- the facts of a def of the text, as the head tells them -/
theorem df_mk {K : PySem.W.Frag} {h : Heap} {mg : Str → Option Value} {x : Str} {st : Stmt} {ps : List Str} {f : Addr} {oc : Value} {od an : Option Addr} {osl : Array (Option Value)} {kV doc pm cdv ct : Value} (X : K.In h) (G : h.Ns mainGlobals mg)
    (a : PySem.W.nsIn K mainGlobals x = some (some (.ref f))) (l : K.lookup f = some ⟨oc, od, .func (PySem.W.fnOf x x (defArgs st) (defBody st) (defScope st) .none kV doc pm an cdv ct), osl⟩)
    (c : PySem.W.codeIn K cdv x = true) (k : PySem.W.keepIn K (.ref f) = true)
    (b : ∀ (kV doc pm : Value) (an : Option Addr) (cdv ct : Value) (us : List Value), us.length = ps.length → bindArgs (PySem.W.fnOf x x (defArgs st) (defBody st) (defScope st) .none kV doc pm an cdv ct) ⟨us, []⟩ = pure (ps.zip us)) : Df K mg x st ps :=
  ⟨f, _, fun_mk l c k, PySem.W.mg_of X G a, (fun_mk l c k).binds b⟩
end Rk
namespace Rk
open PySem PySem.Spec PyProof.Rows L2
theorem same_upd {H : Hp} {p : Addr} {o : HO} (hp : H p = none) : Same H (upd H p o) := fun b u e => by
  rw [upd_ne (ne_of_none e hp)]
  exact e
/-! ### zeros at the end -/
def tz (n : Nat) : Nat := if h : n = 0 then 0 else if n % 2 = 0 then tz (n / 2) + 1 else 0
termination_by n
decreasing_by omega
theorem tz_even {n : Nat} (h0 : 0 < n) (h : n % 2 = 0) : tz n = tz (n / 2) + 1 := by
  rw [tz, dif_neg (by omega), if_pos h]
theorem tz_odd {n : Nat} (h : n % 2 = 1) : tz n = 0 := by
  rw [tz, dif_neg (by omega), if_neg (by omega)]
theorem tz_le : ∀ n : Nat, 0 < n → 2 ^ tz n ≤ n := by
  intro n
  induction n using Nat.strongRecOn with
  | ind n ih =>
    intro h0
    by_cases h : n % 2 = 0
    · rw [tz_even h0 h, Nat.pow_succ]
      have := ih (n / 2) (by omega) (by omega)
      omega
    · rw [tz_odd (by omega)]
      omega
theorem tz_lt {n k : Nat} (h0 : 0 < n) (h : n < 2 ^ k) : tz n < k := by
  have h1 := tz_le n h0
  exact (Nat.pow_lt_pow_iff_right (by decide : 1 < 2)).mp (Nat.lt_of_le_of_lt h1 h)
theorem low_bit : ∀ n : Nat, 0 < n → n - (n &&& (n - 1)) = 2 ^ tz n := by
  intro n
  induction n using Nat.strongRecOn with
  | ind n ih =>
    intro h0
    have a1 : (n &&& (n - 1)) / 2 = (n / 2) &&& ((n - 1) / 2) := Nat.and_div_two
    have a3 : ¬ (n &&& (n - 1)) % 2 = 1 := by
      rw [Nat.and_mod_two_eq_one]
      omega
    by_cases h : n % 2 = 0
    · have i := ih (n / 2) (by omega) (by omega)
      rw [tz_even h0 h, Nat.pow_succ, ← i]
      have a2 : (n - 1) / 2 = n / 2 - 1 := by omega
      have le : (n / 2) &&& (n / 2 - 1) ≤ n / 2 := Nat.and_le_left
      rw [a2] at a1
      omega
    · rw [tz_odd (by omega)]
      have a2 : (n - 1) / 2 = n / 2 := by omega
      rw [a2, Nat.and_self] at a1
      omega
theorem low_int {p : Int} (h : 0 < p) : Builtin.bitAnd p (-p) = ((2 ^ tz p.toNat : Nat) : Int) := by
  have e1 : decide (0 ≤ p) = true := decide_eq_true (by omega)
  have e2 : decide (0 ≤ -p) = false := decide_eq_false (by omega)
  have e3 : (Builtin.bitNot (-p)).toNat = p.toNat - 1 := by
    unfold Builtin.bitNot
    omega
  have l := low_bit p.toNat (by omega)
  have le : p.toNat &&& (p.toNat - 1) ≤ p.toNat := Nat.and_le_left
  unfold Builtin.bitAnd
  rw [e1, e2]
  show p - ((p.toNat &&& (Builtin.bitNot (-p)).toNat : Nat) : Int) = _
  rw [e3, ← l]
  omega
theorem bits_pow (k : Nat) : Builtin.Int.intBits ((2 ^ k : Nat) : Int) = k + 1 := by
  have h0 : 0 < 2 ^ k := Nat.pow_pos (by decide)
  unfold Builtin.Int.intBits
  have hz : ¬ (((2 ^ k : Nat) : Int) == 0) = true := by
    intro z
    have := of_decide_eq_true z
    omega
  rw [if_neg hz, Int.natAbs_natCast, Nat.log2_two_pow]
theorem tz_60 {p : Int} (h : 0 < p) (h2 : p ≤ 10 ^ 18) : tz p.toNat < 60 := tz_lt (by omega) (by
  have : p.toNat ≤ 10 ^ 18 := by omega
  exact Nat.lt_of_le_of_lt this (by decide))
theorem SqT.same {K : PySem.W.Frag} {H H' : Hp} {a : Addr} {xs : List V} (e : Same H H') (h : SqT K H a xs) : SqT K H' a xs := by
  rcases h with (h | ⟨o, h⟩) | h
  · exact .inl (.inl (e _ _ h))
  · exact .inl (.inr ⟨o, e _ _ h⟩)
  · exact .inr h
theorem map_at {α : Type} {f : α → V} {xs : List α} {i : Nat} {x : V} (h : (xs.map f)[i]? = some x) : ∃ n, xs[i]? = some n ∧ x = f n := by
  rw [List.getElem?_map] at h
  cases e : xs[i]? with
  | none => rw [e] at h; cases h
  | some n =>
    rw [e] at h
    exact ⟨n, rfl, (Option.some.inj h).symm⟩
end Rk
namespace Rk
open PySem PySem.Spec PyProof.Rows L2

/-! ### static methods, read off the class -/
structure SMet (K : PySem.W.Frag) (C : Addr) (mc : Value) (m : Str) (p f : Addr) : Prop where
  at_ : PySem.W.findCls K (.ref C) mc m = some (.get (.builtin "staticmethod.__get__") (.ref p) .none (.ref C))
  rc : ∃ rest, PySem.W.recIn K p "staticmethod" = some (.ref f :: rest)
  hi : PySem.W.handedIn (.ref f) = true
  kp : PySem.W.keepIn K (.ref f) = true
def tStatic (C : Addr) (sp : Sp) (ta : TE) (t : TA) : TE := fun σ H Q => ta σ H fun x H1 => x = .ref C ∧ t σ H1 fun vs H2 => sp vs H2 Q E0
section
variable {X : Cx} {k : Nat} {C p f : Addr} {mc : Value} {fd : FuncData} {ps : List Str} {sp : Sp} {o e : Expr} {es : List Expr} {m : Str} {pos apos : Pos} {ta : TE} {t : TA} {pl : Sem Bool}
theorem pe_static (he : PE X o ta) (r : ClX.CRead X.K C mc) (c : SMet X.K C mc m p f) (F : FnOk X.prog X.w X.K X.mg X.base CX0 k f fd ps sp) (hb : Binds X.K fd ps []) (hr : Room k X.A) (ha : PA X (e :: es) t)
    (hst : starEach (e :: es) X.env = (false, eval e X.env) :: starEach es X.env := by rfl) (hpl : (backTo pos (starEach es X.env)).any (·.1) = false := by rfl)
    (ht : eval (.Call (.Attribute o m apos) (e :: es) [] pos) X.env = (do
      let ov ← eval o X.env; standAt apos.atName
      let (f, first) ← holding [ov] (getMethod ov m pl); callWith pos f first (backTo pos (starEach (e :: es) X.env)) (backToKw pos (keywordEach [] X.env))) := by rfl) :
    PE X (.Call (.Attribute o m apos) (e :: es) [] pos) (tStatic C sp ta t) := by
  constructor
  intro pins s σ H Q I h
  refine PySem.W.methodCall_KW (pl := pl) (thn (he.run pins s σ H _ I h) ?_) ht
  rintro u s1 ⟨x, H1, I1, rx, ex, q⟩
  subst ex
  obtain rfl : u = Value.ref C := rx
  obtain ⟨rest, hp⟩ := c.rc
  refine PySem.W.method_cls I1.kIn r.ga (PySem.W.cls_bind I1.kIn r.rd c.at_ (wpAny_call (PySem.W.sm_get (s := { s1 with toks := s1.toks + 1 }) I1.kIn hp (PySem.W.handed_on c.hi ?_))))
  have I2 : Inv X pins σ H1 { s1 with toks := s1.toks + 1 } := I1.tok _
  refine PySem.W.callWith_K (first := []) (h₀ := X.base) I2.ok.mod.kin c.kp (thn (ha.run pos pins _ σ H1 _ I2 q) ?_) hst hpl
  rintro us s3 ⟨vs, H2, I3, rv, q2⟩
  exact ⟨I3.kIn, run_fn F hr hb .nil pass0 I3 rv (by rw [List.append_nil]; exact q2)⟩
end

/-! ### C(*y) -/
section
variable {X : Cx} {k : Nat} {f C : Addr} {sp : Sp} {x : Str} {e : Expr} {te : TE} {p sp_ pos : Pos}
def tMakeS (K : PySem.W.Frag) (C : Addr) (sp : Sp) (te : TE) : TE := fun σ H Q => te σ H fun y H1 => ∃ a xs, y = V.ref a ∧ (SqT K H1 a xs ∨ SqL K H1 a xs) ∧ ∀ x dx, H1 x = Option.none → H1 dx = Option.none → dx ≠ x →
  sp (V.ref x :: xs) (upd (upd H1 dx (.own x)) x (.ins C dx [])) (fun v H2 => v = .non ∧ Q (.ref x) H2) E0
theorem pe_makeS (M : Mk X.K C f) (F : FnR X.prog X.w X.K X.mg X.base CX0 k f sp) (hr : Room (k + 1) X.A) (hg : Gl X x) (hm : X.mg x = some (.ref C)) (he : PE X e te) (hd : (x == ("__debug__" : Str)) = false := by decide)
    (hst : starEach [.Starred e sp_] X.env = [(true, eval e X.env)] := by rfl) : PE X (.Call (.Name x p) [.Starred e sp_] [] pos) (tMakeS X.K C sp te) := by
  constructor
  intro pins s σ H Q I h
  refine wpAny_Call_Name_kw (ld_glob I hg hm ?_ hd)
  refine PySem.W.callWith_S (h₀ := X.base) I.ok.mod.kin M.kp (thn (he.run pins s σ H _ I h) ?_) hst
  rintro v s1 ⟨y, H1, I1, ry, a, xs, ey, hxs, q⟩
  subst ey
  obtain rfl : v = Value.ref a := ry
  exact StX.star_any I1 hxs fun us s2 I2 rv => ⟨I2.kIn, StX.run_makeR M F hr pass0 I2 rv q⟩
end

/-! ### program defs, called from anywhere -/
def HasO (P : Program) (w : World) (K : PySem.W.Frag) (mg : Str → Option Value) (base : Heap) (k : Nat) (x : Str) (ps : List Str) (sp : Sp) : Prop :=
  ∃ (f : Addr) (fd : FuncData), mg x = some (.ref f) ∧ PySem.W.keepIn K (.ref f) = true ∧ Binds K fd ps [] ∧ FnOk P w K mg base CX0 k f fd ps sp
section
variable {P : Program} {w : World} {K : PySem.W.Frag} {mg : Str → Option Value} {base : Heap} {k : Nat} {x : Str} {ps N : List Str} {sp : Sp} {st : Stmt}
theorem Df.hasO (D : Df K mg x st ps) (S : FnScope N ps (defScope st)) (len : ∀ vs H Q E, sp vs H Q E → vs.length = ps.length)
    (bd : ∀ (f : Addr) (cdv : Value) (A : Around) (outer : List Env) (s : Shared) (H : Hp) (vs : List V) (Q : VK) (E : XK), Room k (A.deeper (envOfC x (defScope st) s.heap.objs.size f cdv)) → sp vs H Q E →
      ∃ t, PSs (cxOf CX0 P w K mg base N x (defScope st) f cdv A outer s H E).nox (defBody st) t ∧ t { nx := fun _ H' => Q .non H', rt := Q } (start N vs) H) :
    HasO P w K mg base (k + 1) x ps sp := by
  obtain ⟨f, fd, F, m, b⟩ := D.ex
  exact ⟨f, fd, m, F.kp, b, F.ok S len (bd f)⟩
end
section
variable {X : Cx} {k : Nat} {ps : List Str} {sp : Sp} {x : Str} {p pos : Pos} {e : Expr} {es : List Expr} {t : TA}
theorem pe_hasO (h : HasO X.prog X.w X.K X.mg X.base k x ps sp) (hr : Room k X.A) (gx : Gl X x) (ha : PA X (e :: es) t) (hdb : (x == ("__debug__" : Str)) = false := by decide)
    (he : starEach (e :: es) X.env = (false, eval e X.env) :: starEach es X.env := by rfl) (hpl : (backTo pos (starEach es X.env)).any (·.1) = false := by rfl) :
    PE X (.Call (.Name x p) (e :: es) [] pos) (tCall sp [] E0 t) := by
  obtain ⟨f, fd, m, kp, b, F⟩ := h
  exact pe_call F hr gx m kp b .nil pass0 ha hdb he hpl
end
end Rk
namespace Rk
open PySem PySem.Spec PyProof.Rows L2

/-! ### lives as data -/
def lv : Option Int → V
  | none => .non
  | some i => .int i
theorem lv_inj {x y : Option Int} (h : lv x = lv y) : x = y := by
  cases x <;> cases y <;> simp_all [lv]
def leO : Option Int → Option Int → Bool
  | _, none => true
  | none, some _ => false
  | some a, some b => decide (a ≤ b)
/-- without the last ones that repeat -/
def cutN (ls : List (Option Int)) : Nat → Nat
  | 0 => 0
  | 1 => 1
  | n + 2 => if ls[n + 1]? = ls[n]? then cutN ls (n + 1) else n + 2
def short (ls : List (Option Int)) : List (Option Int) := ls.take (cutN ls ls.length)
theorem cutN_le (ls : List (Option Int)) : ∀ n, cutN ls n ≤ n
  | 0 => Nat.le_refl _
  | 1 => Nat.le_refl _
  | n + 2 => by
    unfold cutN
    split
    · exact Nat.le_succ_of_le (cutN_le ls (n + 1))
    · exact Nat.le_refl _
theorem cutN_pos (ls : List (Option Int)) : ∀ n, 0 < n → 0 < cutN ls n
  | 0, h => h
  | 1, _ => Nat.one_pos
  | n + 2, _ => by
    unfold cutN
    split
    · exact cutN_pos ls (n + 1) (by omega)
    · omega
theorem cutN_eq {ls : List (Option Int)} {n : Nat} (h : ls[n + 1]? = ls[n]?) : cutN ls (n + 2) = cutN ls (n + 1) := by
  conv => lhs; unfold cutN
  rw [if_pos h]
theorem cutN_ne {ls : List (Option Int)} {n : Nat} (h : ¬ ls[n + 1]? = ls[n]?) : cutN ls (n + 2) = n + 2 := by
  conv => lhs; unfold cutN
  rw [if_neg h]
/-- the least rank from j on whose life is old enough -/
def due : Nat → List (Option Int) → Int → Option Int
  | _, [], _ => none
  | j, l :: r, a => if leO (some (a + 2 ^ j)) l = true then some (2 ^ j - 1) else due (j + 1) r a
theorem due_snoc {a : Int} {l : Option Int} : ∀ (xs : List (Option Int)) (j : Nat), xs.getLast? = some l → due j (xs ++ [l]) a = due j xs a
  | [], _, h => by simp at h
  | [x], j, h => by
    have e : x = l := by simpa using h
    subst e
    show (if leO (some (a + 2 ^ j)) x = true then some (2 ^ j - 1) else due (j + 1) [x] a) = (if leO (some (a + 2 ^ j)) x = true then some (2 ^ j - 1) else due (j + 1) [] a)
    by_cases h : leO (some (a + 2 ^ j)) x = true
    · rw [if_pos h, if_pos h]
    · rw [if_neg h, if_neg h]
      show (if leO (some (a + 2 ^ (j + 1))) x = true then some (2 ^ (j + 1) - 1) else none) = none
      rw [if_neg]
      cases x with
      | none => exact absurd rfl h
      | some i =>
        have h1 : ¬ a + 2 ^ j ≤ i := fun z => h (decide_eq_true z)
        have h2 : (0 : Int) < 2 ^ j := Int.pow_pos (by decide)
        intro z
        have z' : a + 2 ^ (j + 1) ≤ i := of_decide_eq_true z
        rw [Int.pow_succ] at z'
        omega
  | x :: y :: r, j, h => by
    have h' : (y :: r).getLast? = some l := by simpa [List.getLast?_cons_cons] using h
    have ih := due_snoc (a := a) (y :: r) (j + 1) h'
    show (if leO (some (a + 2 ^ j)) x = true then some (2 ^ j - 1) else due (j + 1) ((y :: r) ++ [l]) a) = (if leO (some (a + 2 ^ j)) x = true then some (2 ^ j - 1) else due (j + 1) (y :: r) a)
    rw [ih]
theorem due_take {ls : List (Option Int)} {a : Int} : ∀ n, n ≤ ls.length → due 0 (ls.take (cutN ls n)) a = due 0 (ls.take n) a
  | 0, _ => rfl
  | 1, _ => rfl
  | n + 2, hn => by
    by_cases h : ls[n + 1]? = ls[n]?
    · rw [cutN_eq h, due_take (n + 1) (by omega)]
      have h1 : n + 1 < ls.length := by omega
      have e : ls.take (n + 2) = ls.take (n + 1) ++ [ls[n + 1]] := (List.take_append_getElem h1).symm
      rw [e]
      symm
      apply due_snoc
      rw [List.getLast?_eq_getElem?, List.length_take, Nat.min_eq_left (by omega)]
      show (ls.take (n + 1))[n]? = some ls[n + 1]
      rw [List.getElem?_take_of_lt (by omega), ← h, List.getElem?_eq_getElem h1]
    · rw [cutN_ne h]
theorem due_short (ls : List (Option Int)) (a : Int) : due 0 (short ls) a = due 0 ls a := by
  unfold short
  rw [due_take _ (Nat.le_refl _), List.take_length]
/-- what lives are: from 0 to 10 ** 18, none less than the one ahead, the last one perhaps None -/
structure Good (ls : List (Option Int)) : Prop where
  pos : 0 < ls.length
  most : ls.length ≤ 61
  init : ∃ (is : List Int) (l : Option Int), ls = is.map some ++ [l] ∧ (∀ i ∈ is, 0 ≤ i ∧ i ≤ 10 ^ 18) ∧ (∀ i, l = some i → 0 ≤ i ∧ i ≤ 10 ^ 18)
  asc : ∀ (i : Nat) (x y : Option Int), ls[i]? = some x → ls[i + 1]? = some y → leO x y = true

/-! ### slices of tuples, whole or not -/
def rSlB (K : PySem.W.Frag) : V → Option Int → Option Int → Hp → VK → Prop := fun x lo hi H Q => ∃ a xs, x = .ref a ∧ SqT K H a xs ∧
  ∀ r H', (r = a ∧ H' = H ∧ cutV xs lo hi = xs) ∨ (H r = none ∧ H' = upd H r (.tup (cutV xs lo hi))) → Q (.ref r) H'
section
variable {X : Cx}
theorem sl_tupB : SlR X (rSlB X.K) := by
  intro pins s σ H x v vl vu lo hi sl Q I rx hs pl pu h
  obtain ⟨a, xs, e, hx, q⟩ := h
  refine sl_tupA pins s σ H x v vl vu lo hi sl Q I rx hs pl pu ⟨a, xs, e, hx, fun w => q a H (Or.inl ⟨rfl, rfl, ?_⟩), fun w p hp => q p _ (Or.inr ⟨hp, rfl⟩)⟩
  unfold cutV
  rw [w.1, w.2]
  simp
end
theorem rSlB_same {H H' : Hp} {a r : Addr} {xs : List V} {lo hi : Option Int} (h : (r = a ∧ H' = H ∧ cutV xs lo hi = xs) ∨ (H r = none ∧ H' = upd H r (.tup (cutV xs lo hi)))) : Same H H' := by
  rcases h with ⟨_, e, _⟩ | ⟨n, e⟩
  · rw [e]
    exact Same.refl _
  · rw [e]
    intro b u z
    rw [upd_ne (ne_of_none z n)]
    exact z
theorem rSlB_at {K : PySem.W.Frag} {H H' : Hp} {a r : Addr} {xs : List V} {lo hi : Option Int} (hx : SqT K H a xs) (h : (r = a ∧ H' = H ∧ cutV xs lo hi = xs) ∨ (H r = none ∧ H' = upd H r (.tup (cutV xs lo hi)))) : SqT K H' r (cutV xs lo hi) := by
  rcases h with ⟨e1, e, ec⟩ | ⟨n, e⟩
  · rw [e, e1, ec]
    exact hx
  · rw [e]
    exact SqT.of upd_same
theorem cut_init (xs : List V) (v : V) : cutV (xs ++ [v]) none (some (-1)) = xs := by
  have h : HT.sIx (xs ++ [v]).length (xs ++ [v]).length (some (-1)) = xs.length := by
    rw [List.length_append, List.length_singleton]
    unfold HT.sIx
    simp
    omega
  have h0 : HT.sIx (xs ++ [v]).length 0 none = 0 := by
    unfold HT.sIx
    simp
  unfold cutV
  rw [h, h0]
  simp
theorem cut_take (xs : List V) (n : Nat) (h : n ≤ xs.length) : cutV xs none (some (n : Int)) = xs.take n := by
  have h0 : HT.sIx xs.length 0 none = 0 := by
    unfold HT.sIx
    simp
  have h1 : HT.sIx xs.length xs.length (some (n : Int)) = n := by
    rw [HT.sIx_nat]
    omega
  unfold cutV
  rw [h1, h0]
  simp
theorem cut_drop (xs : List V) : cutV xs (some 1) none = xs.drop 1 := by
  have h0 : HT.sIx xs.length xs.length none = xs.length := by
    unfold HT.sIx
    simp
  have h1 : HT.sIx xs.length 0 (some 1) = min 1 xs.length := HT.sIx_nat _ _ 1
  unfold cutV
  rw [h1, h0]
  cases xs with
  | nil => rfl
  | cons x r =>
    have e : min 1 (x :: r).length = 1 := by rw [List.length_cons]; omega
    rw [e]
    simp
end Rk
namespace Rk
open PySem PySem.Spec PyProof.Rows L2
open Sem (wp)
open AutoSeq1 (wpAny_loadPart')

theorem meets_enum1 {v : Value} {o : Obj} {H : Heap → Prop} (B : Begins v o H) :
    Meets (Builtin.«enumerate.__new__» ⟨[.type "enumerate", v], []⟩) (fun _ R s => H s.heap ∧ R (.ok (.ret (.ref (s.heap.push o).objs.size)))
      { s with heap := (s.heap.push o).push { cls := .type "enumerate", data := .fields #[.none, .bool false, .ref s.heap.objs.size, rawInt 0, .none, .none] } }) :=
  .of_wp fun prog w A R s h => by
    obtain ⟨hp, g, d, tk, os⟩ := s
    obtain ⟨hl, h⟩ := h
    have hsub := sub_enumerate
    have hi : ∀ {A2 : Around} {E2 : Value → Shared → Prop} {R2 : Value → Shared → Prop}, R2 (.ref hp.objs.size) ⟨hp.push o, g, d, tk, os⟩ →
        wpAny (model prog w) A2 (pyIter v) R2 E2 ⟨hp, g, d, tk, os⟩ := by
      intro A2 E2 R2 z
      exact B.iter prog w A2 E2 ⟨hp, g, d, tk, os⟩ R2 hl z
    wp_walk
    refine wpAny_stack_any fun st => wpAny_pure ?_
    split
    · rename_i c _ _ _ _ _
      cases (c == Value.type "enumerate")
      · wp_walk using hi
        exact ⟨_, rfl, h⟩
      · wp_walk using hi
        exact ⟨_, rfl, h⟩
    · wp_walk using hi
      exact ⟨_, rfl, h⟩
section
variable {prog : Program} {w : World} {A : Around} {E : Value → Shared → Prop} {s : Shared}
theorem enum_tup {a : Addr} {items : Array Value} {Q : Value → Shared → Prop} (hT : s.heap.IsTuple a items)
    (h : ∀ h', IsEnum h' (s.heap.objs.size + 1) s.heap.objs.size 0 .none → h'.IsTupleIter s.heap.objs.size a 0 → h'.objs.size = s.heap.objs.size + 2 →
      (∀ b o, s.heap.get? b = some o → h'.get? b = some o) → Q (.ref (s.heap.objs.size + 1)) { s with heap := h' }) : wpAny (model prog w) A (call (.type "enumerate") [.ref a]) Q E s := by
  have B := begins_tuple a items
  refine callType_new F.called_enumerate (by decide) (F.typeCall_enumerate_1 _) (F.newCall_enumerate_1 _) (fun obj => F.args_object_init_2 obj _) F.entry_enumerate_new (meets_enum1 B) ⟨hT, ?_⟩
  generalize eo : ({ cls := .type "tuple_iterator", data := .fields #[.ref a, .int 0 0] } : Obj) = oi
  have fr : oi.isFreed = false := by rw [← eo]; rfl
  generalize ee : ({ cls := .type "enumerate", data := .fields #[.none, .bool false, .ref s.heap.objs.size, rawInt 0, .none, .none] } : Obj) = oe
  have fe : oe.isFreed = false := by rw [← ee]; rfl
  have z1 : (s.heap.push oi).objs.size = s.heap.objs.size + 1 := Heap.size_push _ _
  have g1 : (s.heap.push oi).get? s.heap.objs.size = some oi := Heap.get?_push_size _ fr
  have g2 : ((s.heap.push oi).push oe).get? (s.heap.objs.size + 1) = some oe := by
    rw [← z1]
    exact Heap.get?_push_size _ fe
  show _ ∧ _
  rw [z1]
  refine ⟨⟨oe, g2, by rw [← ee]⟩, h _ (by rw [← ee] at g2 ⊢; exact g2) ?_ (by rw [Heap.size_push, z1]) (fun b o x => Heap.get?_push_of_some _ (Heap.get?_push_of_some _ x))⟩
  exact ⟨oi, Heap.get?_push_of_some _ g1, by rw [← eo], by rw [← eo]; rfl⟩
end
/-- the tuple at a as it stands at each turn, each item in a new pair -/
def IteT (K : PySem.W.Frag) (a : Addr) : It :=
  ⟨fun i H => ∃ (xs : List V) (x : V), SqT K H a xs ∧ xs[i]? = some x, fun i H v H' => ∃ t x, v = .ref t ∧ H t = none ∧ H' = upd H t (.tup [.int (i : Nat), x]) ∧ ∀ xs, SqT K H a xs → xs[i]? = some x, fun i H => ∃ xs : List V, SqT K H a xs ∧ xs.length ≤ i⟩
theorem turn_enumT {P : Program} {w : World} {K : PySem.W.Frag} {elts : List Expr} {kk : Nat} {tpos : Pos} (a e it : Addr) :
    Turn P w K (.Tuple elts kk tpos) (IteT K a) [e, it] e (fun i h => (∃ old, IsEnum h e it ((i : Nat) : Int) old) ∧ h.IsTupleIter it a i ∧ e ≠ it) where
  mem := List.mem_cons_self
  obj := by
    rintro i h ⟨⟨old, he⟩, ⟨o, ho, hc, hd⟩, _⟩ b hb
    rcases List.mem_cons.mp hb with z | z
    · subst z
      exact ⟨_, he, fun v q => nomatch q⟩
    · obtain rfl : b = it := List.mem_singleton.mp z
      exact ⟨o, ho, fun v q => by rw [hd] at q; cases q⟩
  keep := by
    rintro i h h' ⟨⟨old, he⟩, hi, hne⟩ k
    exact ⟨⟨old, k e List.mem_cons_self _ he⟩, hi.at fun o q => k it (List.mem_cons_of_mem _ List.mem_cons_self) o q, hne⟩
  item := by
    intro X hP hw hK hc i pins s σ H E I hf st hg
    subst hP hw hK
    obtain ⟨⟨old, he⟩, hit, hne⟩ := st
    obtain ⟨xs, x, hq, hx⟩ := hg
    obtain ⟨its, rv, p, hz⟩ := I.tuple hq
    obtain ⟨u, hu, ru⟩ := rv.get hx
    have tl : s.heap.IsTuple a its.toArray := p
    have la : a < s.heap.objs.size := by obtain ⟨_, q, _⟩ := tl; exact Heap.lt_size q
    have le : e < s.heap.objs.size := Heap.lt_size he
    have li : it < s.heap.objs.size := by obtain ⟨_, q, _⟩ := hit; exact Heap.lt_size q
    have cls : ∀ {b : Addr}, (∃ o, s.heap.get? b = some o ∧ o.cls ≠ .type "tuple") → a ≠ b := by
      rintro b ⟨o, ho, hn⟩ z
      subst z
      obtain ⟨o2, h2, c2, _⟩ := tl
      rw [ho] at h2
      cases h2
      exact hn c2
    have ae : a ≠ e := cls ⟨_, he, by intro z; injection z with z; exact absurd z (by decide)⟩
    have ai : a ≠ it := cls (by obtain ⟨o, ho, hc', _⟩ := hit; exact ⟨o, ho, by rw [hc']; intro z; injection z with z; exact absurd z (by decide)⟩)
    have hn : i < its.toArray.size := by
      have := (List.getElem?_eq_some_iff.mp hu).1
      simpa using this
    refine wpAny_pyNext_enum_itemD (Draws.tuple (A := X.A.in1) (I.ok.hd hc) it a ai its.toArray) he ⟨hit, tl⟩ hn hne (by
      intro z
      rcases List.mem_cons.mp z with z | z
      · exact hne z
      · exact ae (List.mem_singleton.mp z).symm) ?_
    intro u' h' tk hx' ho hst hT hsz hk
    obtain rfl : u' = u := by
      have q : its[i]? = some u' := by simpa using hx'
      rw [hu] at q
      exact (Option.some.inj q).symm
    refine ⟨_, rfl, wpAny_letOwnedTupleGo_enum (s := { s with heap := h', toks := tk + 1 }) ho fun h'' he' sb => ?_⟩
    have hT2 : h''.get? s.heap.objs.size = some { cls := .type "tuple", data := .seq #[.int i tk, u'] } := (sb.2 _ (Nat.ne_of_gt le)).trans hT
    have new : ObjOk X.prog X.w (upd H s.heap.objs.size (.tup [.int (i : Nat), x])) h'' s.heap.objs.size (.tup [.int (i : Nat), x]) :=
      ⟨by show 2 ≤ sizeLine; decide, [.int i tk, u'], .cons ⟨_, rfl⟩ (.cons ru .nil), ⟨_, hT2, rfl, _, rfl⟩⟩
    have I1 : Inv X pins σ (upd H s.heap.objs.size (.tup [.int (i : Nat), x])) { s with heap := h'', toks := tk + 1 } := by
      refine I.turnedNew (ch := [e, it]) ?_ hf (Nat.le_refl _) new
      intro b ob hb q
      have be : b ≠ e := fun z => hb (by rw [z]; exact List.mem_cons_self)
      have bi : b ≠ it := fun z => hb (by rw [z]; exact List.mem_cons_of_mem _ List.mem_cons_self)
      exact (sb.2 b be).trans (hk b ob be bi q)
    refine ⟨.ref s.heap.objs.size, _, I1, rfl, ⟨_, x, rfl, I.hok.fresh (Nat.le_refl _), rfl, fun ys hy => by rw [I.tuple_inj hy hq]; exact hx⟩, ⟨⟨u', ?_⟩, hst.1.at fun o q => (sb.2 it (Ne.symm hne)).trans q, hne⟩, ?_⟩
    · have e1 : ((i + 1 : Nat) : Int) = (i : Int) + 1 := by omega
      rw [e1]
      exact he'
    · intro b hb
      have lb : b < s.heap.objs.size := by
        rcases List.mem_cons.mp hb with z | z
        · rw [z]; exact le
        · rw [List.mem_singleton.mp z]; exact li
      rw [upd_ne (Nat.ne_of_lt lb)]
      exact (hf b hb).1
  done := by
    intro X hP hw hK hc i pins s σ H E I hf st hg
    subst hP hw hK
    obtain ⟨⟨old, he⟩, hit, hne⟩ := st
    obtain ⟨xs, hq, hx⟩ := hg
    obtain ⟨its, rv, p, hz⟩ := I.tuple hq
    have tl : s.heap.IsTuple a its.toArray := p
    obtain ⟨f0, f1, f2, f3, f4, f5⟩ := hf it (List.mem_cons_of_mem _ List.mem_cons_self)
    have hl := rv.length
    have none : its.toArray[i]? = Option.none := by
      rw [List.getElem?_toArray]
      exact List.getElem?_eq_none (by omega)
    have D : Draws X.prog X.w X.A.in1 it [it, a] 0 (fun _ _ => False) (fun _ h => h.IsTupleIter it a i ∧ h.IsTuple a its.toArray) :=
      { live := fun _ _ z => let ⟨o, ho, _⟩ := z.1; ⟨o, ho⟩
        frame := fun _ _ _ z k => ⟨z.1.at fun o q => k it List.mem_cons_self o q, z.2.at fun o q => k a (List.mem_cons_of_mem _ List.mem_cons_self) o q⟩
        item := fun _ _ _ _ z => absurd z (Nat.not_lt_zero _)
        done := fun _ _ _ z hE => wpAny_nextOf_tuple_end (I.ok.hd hc) z.1 z.2 none hE }
    exact wpAny_pyNext_enum_endD D he ⟨hit, tl⟩ fun h' eb => ⟨rfl, I.turned (t' := s.toks) (fun b o hb q => eb b o hb q) f0 f1 f3 f4 f5⟩
  self := fun A i s Q E st h => let ⟨⟨_, he⟩, _⟩ := st; wpAny_pyIter_enum he h
def iEnumT (K : PySem.W.Frag) (ta : TA) : TI := fun σ H R => ta σ H fun vs H1 => ∃ a xs, vs = [.ref a] ∧ SqT K H1 a xs ∧ R (IteT K a) H1
theorem pi_enumT {X : Cx} {e : Expr} {ta : TA} {p pos tpos : Pos} {elts : List Expr} {kk : Nat} (hg : Gl X "enumerate") (hm : X.mg "enumerate" = none) (ha : PA X [e] ta) (hs : starEach [e] X.env = [(false, eval e X.env)] := by rfl) :
    PI X (.Tuple elts kk tpos) (.Call (.Name "enumerate" p) [e] [] pos) (iEnumT X.K ta) := by
  constructor
  intro pins s σ H R I h
  refine Call_ (ld_blt I hg hm boot_enumerate (PyProof.Rows.callWith_type1 (thn (ha.run pos pins s σ H _ I h) ?_) hs rfl))
  rintro us s1 ⟨vs, H1, I1, r1, a, xs, ex, hq, q⟩
  subst ex
  obtain rfl : us = [Value.ref a] := Vals.ref1 r1
  obtain ⟨its, rv, p', hz⟩ := I1.tuple hq
  refine enum_tup p' fun h' he hit hsz hk => wpAny_pyIter_enum he ?_
  have I2 : Inv X pins σ H1 { s1 with heap := h' } := I1.kept (t' := s1.toks) hk
  refine ⟨s1.heap.objs.size + 1, [s1.heap.objs.size + 1, s1.heap.objs.size], _, _, H1, rfl, I2, turn_enumT a (s1.heap.objs.size + 1) s1.heap.objs.size, ⟨⟨.none, he⟩, hit, Nat.succ_ne_self _⟩, ?_, q⟩
  intro b hb
  have hle : s1.heap.objs.size ≤ b := by
    rcases List.mem_cons.mp hb with z | z
    · rw [z]; exact Nat.le_add_right _ _
    · rw [List.mem_singleton.mp z]; exact Nat.le_refl _
  exact I1.fpOk hle (I1.hok.fresh hle)
theorem walk_enumT {K : PySem.W.Frag} {a : Addr} {xs : List V} : Walk (IteT K a) xs.length (fun H => SqT K H a xs) (YPair (fun i => some (.int (i : Nat))) (fun i => xs[i]?)) := by
  constructor
  · intro i H hi q
    exact ⟨xs, xs[i], q, List.getElem?_eq_getElem hi⟩
  · intro H q
    exact ⟨xs, q, Nat.le_refl _⟩
  · rintro i H v H' _ q ⟨t, x, h1, h2, h3, h4⟩
    exact ⟨t, .int (i : Nat), x, h1, h2, h3, rfl, h4 xs q⟩
end Rk
namespace Rk
open PySem PySem.Spec PyProof.Rows L2

/-! ### lists of ascending ints as lives -/
def Asc (is : List Int) : Prop := ∀ (i : Nat) (x y : Int), is[i]? = some x → is[i + 1]? = some y → x ≤ y
theorem asc_nil : Asc [] := fun i x y h => by simp at h
theorem asc_snoc {is : List Int} {z : Int} (h : Asc is) (hz : ∀ x ∈ is, x ≤ z) : Asc (is ++ [z]) := by
  intro i x y hx hy
  have hi : i + 1 < is.length + 1 := by
    have := (List.getElem?_eq_some_iff.mp hy).1
    simpa using this
  have h1 : is[i]? = some x := by
    rw [List.getElem?_append_left (by omega)] at hx
    exact hx
  by_cases hl : i + 1 < is.length
  · rw [List.getElem?_append_left hl] at hy
    exact h i x y h1 hy
  · have e : i + 1 = is.length := by omega
    rw [e, List.getElem?_append_right (Nat.le_refl _), Nat.sub_self] at hy
    have : z = y := Option.some.inj hy
    rw [← this]
    exact hz x (List.mem_of_getElem? h1)
theorem asc_init {is : List Int} {z : Int} (h : Asc (is ++ [z])) : Asc is := by
  intro i x y hx hy
  have l1 := (List.getElem?_eq_some_iff.mp hy).1
  exact h i x y (by rw [List.getElem?_append_left (by omega)]; exact hx) (by rw [List.getElem?_append_left l1]; exact hy)
theorem good_ints {ini : List Int} {z : Int} (h1 : ini.length ≤ 60) (hb : ∀ x ∈ ini ++ [z], 0 ≤ x ∧ x ≤ 10 ^ 18) (ha : Asc (ini ++ [z])) : Good (ini.map some ++ [some z]) := by
  have e : ini.map some ++ [some z] = (ini ++ [z]).map some := by rw [List.map_append]; rfl
  refine ⟨by simp, by simp; omega, ⟨ini, some z, rfl, fun i hi => hb i (List.mem_append_left _ hi), fun i hi => ?_⟩, fun i x y hx hy => ?_⟩
  · have : z = i := Option.some.inj hi
    exact hb i (List.mem_append_right _ (by rw [this]; exact List.mem_singleton_self _))
  · rw [e, List.getElem?_map] at hx hy
    cases ex : (ini ++ [z])[i]? with
    | none => rw [ex] at hx; cases hx
    | some a =>
      cases ey : (ini ++ [z])[i + 1]? with
      | none => rw [ey] at hy; cases hy
      | some b =>
        rw [ex] at hx
        rw [ey] at hy
        cases hx
        cases hy
        exact decide_eq_true (ha i a b ex ey)
theorem good_none {is : List Int} (h1 : is.length ≤ 60) (hb : ∀ x ∈ is, 0 ≤ x ∧ x ≤ 10 ^ 18) (ha : Asc is) : Good (is.map some ++ [none]) := by
  refine ⟨by simp, by simp; omega, ⟨is, none, rfl, hb, fun i hi => by cases hi⟩, fun i x y hx hy => ?_⟩
  have hi : i + 1 < is.length + 1 := by
    have := (List.getElem?_eq_some_iff.mp hy).1
    simpa using this
  by_cases hl : i + 1 < is.length
  · rw [List.getElem?_append_left (by rw [List.length_map]; exact hl), List.getElem?_map] at hy
    rw [List.getElem?_append_left (by rw [List.length_map]; omega), List.getElem?_map] at hx
    cases ex : is[i]? with
    | none => rw [ex] at hx; cases hx
    | some a =>
      cases ey : is[i + 1]? with
      | none => rw [ey] at hy; cases hy
      | some b =>
        rw [ex] at hx
        rw [ey] at hy
        cases hx
        cases hy
        exact decide_eq_true (ha i a b ex ey)
  · have e : i + 1 = (is.map some).length := by rw [List.length_map]; omega
    rw [e, List.getElem?_append_right (Nat.le_refl _), Nat.sub_self] at hy
    have : (none : Option Int) = y := Option.some.inj hy
    rw [← this]
    rfl
theorem map_lv_some (is : List Int) : (is.map some).map lv = is.map V.int := by
  rw [List.map_map]
  rfl

/-! ### the worst distance does not fall with the age -/
def wid (x : Option Int) : Int := match x with
  | none => 10 ^ 30
  | some i => i
theorem due_big {a : Int} : ∀ (ls : List (Option Int)) (j : Nat), j + ls.length ≤ 62 → 2 ^ j - 1 ≤ wid (due j ls a) ∧ wid (due j ls a) ≤ 10 ^ 30
  | [], j, h => by
    have h1 : (2 : Nat) ^ j ≤ 2 ^ 62 := Nat.pow_le_pow_right (by decide) (by simp at h; omega)
    have h2 : ((2 ^ j : Nat) : Int) = (2 : Int) ^ j := by rw [Int.natCast_pow]; rfl
    refine ⟨?_, Int.le_refl _⟩
    show (2 : Int) ^ j - 1 ≤ 10 ^ 30
    omega
  | l :: r, j, h => by
    have h1 : (2 : Nat) ^ j ≤ 2 ^ 62 := Nat.pow_le_pow_right (by decide) (by simp at h; omega)
    have h2 : ((2 ^ j : Nat) : Int) = (2 : Int) ^ j := by rw [Int.natCast_pow]; rfl
    have ih := due_big (a := a) r (j + 1) (by simp at h; omega)
    have e : due j (l :: r) a = if leO (some (a + 2 ^ j)) l = true then some (2 ^ j - 1) else due (j + 1) r a := rfl
    rw [e]
    by_cases hc : leO (some (a + 2 ^ j)) l = true
    · rw [if_pos hc]
      show (2 : Int) ^ j - 1 ≤ 2 ^ j - 1 ∧ (2 : Int) ^ j - 1 ≤ 10 ^ 30
      omega
    · rw [if_neg hc]
      have e3 : (2 : Int) ^ (j + 1) = 2 ^ j * 2 := Int.pow_succ _ _
      have h3 : (0 : Int) < 2 ^ j := Int.pow_pos (by decide)
      omega
theorem due_mono {a b : Int} (hab : a ≤ b) : ∀ (ls : List (Option Int)) (j : Nat), j + ls.length ≤ 62 → wid (due j ls a) ≤ wid (due j ls b)
  | [], _, _ => Int.le_refl _
  | l :: r, j, h => by
    have ea : due j (l :: r) a = if leO (some (a + 2 ^ j)) l = true then some (2 ^ j - 1) else due (j + 1) r a := rfl
    have eb : due j (l :: r) b = if leO (some (b + 2 ^ j)) l = true then some (2 ^ j - 1) else due (j + 1) r b := rfl
    rw [ea, eb]
    have ih := due_mono hab r (j + 1) (by simp at h; omega)
    by_cases hb : leO (some (b + 2 ^ j)) l = true
    · have ha : leO (some (a + 2 ^ j)) l = true := by
        cases l with
        | none => rfl
        | some i =>
          have : b + 2 ^ j ≤ i := of_decide_eq_true hb
          exact decide_eq_true (by omega)
      rw [if_pos ha, if_pos hb]
      exact Int.le_refl _
    · rw [if_neg hb]
      by_cases ha : leO (some (a + 2 ^ j)) l = true
      · rw [if_pos ha]
        have := (due_big (a := b) r (j + 1) (by simp at h; omega)).1
        have e3 : (2 : Int) ^ (j + 1) = 2 ^ j * 2 := Int.pow_succ _ _
        have h2 : (0 : Int) < 2 ^ j := Int.pow_pos (by decide)
        show (2 : Int) ^ j - 1 ≤ _
        omega
      · rw [if_neg ha]
        exact ih
theorem wids_sorted (ls : List (Option Int)) (h : ls.length ≤ 62) (n : Nat) : ((List.range n).map fun k => wid (due 0 ls ((k : Nat) : Int))).Pairwise (· ≤ ·) := by
  rw [List.pairwise_map]
  exact List.Pairwise.imp (fun {a b} (z : a < b) => due_mono (by omega) ls 0 (by omega)) List.pairwise_lt_range
/-! ### repr of what is due -/
theorem shownInt {i : Int} (h : i.natAbs.log2 < 1920) : (PyData.int i).shown.length ≤ sizeLine := int_text_fits h
def dO : Option Int → PyData
  | none => .none
  | some i => .int i
theorem dp_lv {K : PySem.W.Frag} {H : Hp} (x : Option Int) : Dp K H (lv x) (dO x) := by
  cases x with
  | none => exact .non
  | some i => exact .int i
/-- repr of None or an int of less than 600 bits -/
theorem repr_ok {x : Option Int} (hx : ∀ i, x = some i → i.natAbs < 2 ^ 600) : (dO x).showable = true ∧ (dO x).hasDict = false ∧ (dO x).depth ≤ 60 ∧ (dO x).shown.length ≤ sizeLine := by
  refine ⟨?_, ?_, ?_, ?_⟩
  · cases x with
    | none => rfl
    | some i =>
      refine decide_eq_true ?_
      have := PySem.Flt.log2_lt_of (by decide : 0 < 600) (hx i rfl)
      omega
  · cases x <;> rfl
  · cases x <;> simp [dO, PyData.depth]
  · cases x with
    | none => decide +kernel
    | some i =>
      refine shownInt ?_
      have := PySem.Flt.log2_lt_of (by decide : 0 < 600) (hx i rfl)
      omega
theorem due_600 {ls : List (Option Int)} {a i : Int} (h : ls.length ≤ 61) (e : due 0 ls a = some i) : i.natAbs < 2 ^ 600 := by
  have hb := due_big (a := a) ls 0 (by omega)
  rw [e] at hb
  have h1 : (0 : Int) ≤ i := by
    have : (2 : Int) ^ 0 - 1 ≤ i := hb.1
    simpa using this
  have h2 : i ≤ 10 ^ 30 := hb.2
  exact Nat.lt_of_le_of_lt (show i.natAbs ≤ 10 ^ 30 by omega) (Nat.lt_of_lt_of_le (show 10 ^ 30 < 2 ^ 100 by decide) (Nat.pow_le_pow_right (by decide) (by decide)))
/-! ### a list of ints as data -/
theorem dpAll_ints {K : PySem.W.Frag} {H : Hp} : ∀ ns : List Int, DpAll K H (ns.map V.int) (ns.map PyData.int)
  | [] => .nil
  | n :: r => .cons (.int n) (dpAll_ints r)
theorem lay_ints : ∀ ns : List Int, PyData.canLayAll0 (ns.map PyData.int) = true ∧ PyData.depthAll (ns.map PyData.int) = 0
  | [] => ⟨rfl, rfl⟩
  | n :: r => by
    have ih := lay_ints r
    constructor
    · show (true && PyData.canLayAll0 (r.map PyData.int)) = true
      rw [ih.1]
      rfl
    · show max 0 (PyData.depthAll (r.map PyData.int)) = 0
      rw [ih.2]
      rfl
theorem shaped_ints (ns : List Int) : SeqAt.shaped (.list (ns.map PyData.int)) = true := by
  have h := lay_ints ns
  unfold SeqAt.shaped
  have e1 : PyData.canLay0 (.list (ns.map PyData.int)) = true := h.1
  have e2 : PyData.depth (.list (ns.map PyData.int)) = 1 := by
    show PyData.depthAll (ns.map PyData.int) + 1 = 1
    rw [h.2]
  rw [e1, e2]
  rfl
end Rk
namespace Rk
open PySem PySem.Spec PyProof.Rows L2
open PySem.W (InstAt findIn isFn subIn mroIn)

/-! ### operators of an own class -/
section
variable {X : Cx} {pins : List (Addr × Obj)} {σ : L2.St} {H : Hp} {s : Shared} {k : Nat} {f C : Addr} {sp : Sp}
theorem ins_inst {a dx : Addr} {fs : List (Str × V)} (I : Inv X pins σ H s) (h : H a = some (.ins C dx fs)) : ∃ ox od, InstAt s.heap a ox C (some od) := by
  obtain ⟨mA, O, _⟩ := ins_get I.hok h
  obtain ⟨od, J, _⟩ := O.look
  exact ⟨_, od, J⟩
/-- what comes back from the method, seen by the operator -/
theorem back_of {Q : VK} {v : Value} {s' : Shared} (h : EP X pins σ Q v s') : PySem.W.CmpBack (EP X pins σ Q) v s' := by
  obtain ⟨x, H', I', r, q⟩ := h
  cases x with
  | non => cases r; exact ⟨.non, H', I', rfl, q⟩
  | bl b => cases r; exact ⟨.bl b, H', I', rfl, q⟩
  | int i => obtain ⟨t, rfl⟩ := (show ∃ t, v = Value.int i t from r); exact ⟨.int i, H', I', ⟨t, rfl⟩, q⟩
  | str z => obtain ⟨t, rfl⟩ := (show ∃ t, v = Value.str z t from r); exact ⟨.str z, H', I', ⟨t, rfl⟩, q⟩
  | byt z => obtain ⟨t, rfl⟩ := (show ∃ t, v = Value.bytes z t from r); exact ⟨.byt z, H', I', ⟨t, rfl⟩, q⟩
  | flt z => obtain ⟨t, rfl⟩ := (show ∃ t, v = Value.float z t from r); exact ⟨.flt z, H', I', ⟨t, rfl⟩, q⟩
  | ref a => cases r; exact ⟨.ref a, H', I', rfl, q⟩
  | ty n => cases r; exact ⟨.ty n, H', I', rfl, q⟩
theorem run_own {A : Around} {x y : V} {v u : Value} {Q : VK} (F : FnR X.prog X.w X.K X.mg X.base CX0 k f sp) (hr : Room k X.A) (I : Inv X pins σ H s) (rx : RelV x v) (ry : RelV y u) (h : sp [x, y] H Q E0) :
    wpAny (model X.prog X.w) X.A (call (.ref f) [v, u]) (PySem.W.CmpBack (EP X pins σ Q)) X.xe s :=
  wpAny_mono (wpAny_call (run_fnR F hr pass0 I (.cons rx (.cons ry .nil)) h)) (fun _ _ z => back_of z) fun _ _ z => z
def rOwn2 (C : Addr) (sp : Sp) : R2 := fun x y H Q => ∃ a b dx dy fs gs, x = .ref a ∧ y = .ref b ∧ H a = some (.ins C dx fs) ∧ H b = some (.ins C dy gs) ∧ sp [.ref a, .ref b] H Q E0
structure OwnOp (K : PySem.W.Frag) (C f : Addr) (m : Str) : Prop where
  at_ : findIn K (.ref C) m = some (some (.ref f))
  fn : isFn K (.ref f) = true
/-- one op other, both of the class -/
theorem op_own2 {op : Operator} (c : PySem.W.selfFirst X.K C = true) (m : OwnOp X.K C f (PySem.dunder op.info.2)) (F : FnR X.prog X.w X.K X.mg X.base CX0 k f sp) (hr : Room k X.A) : OpR X (binaryOp op) (rOwn2 C sp) := by
  intro pins s σ H x y v u Q I rx ry h
  obtain ⟨a, b, dx, dy, fs, gs, rfl, rfl, ha, hb, q⟩ := h
  cases rx
  cases ry
  obtain ⟨oa, da, Ja⟩ := ins_inst I ha
  obtain ⟨ob, db, Jb⟩ := ins_inst I hb
  obtain ⟨mm, hF⟩ := I.fr
  exact PySem.W.binop_K hF I.ok.mod.kin Ja Jb.type c m.at_ m.fn (run_own (A := X.A) (x := .ref a) (y := .ref b) F hr I rfl rfl q)
/-- the comparison one op other by the class's own method -/
theorem op_ownC {op : CmpOp} (hop : ∀ v u, compareOp op v u = richCompare op v u) (m : OwnOp X.K C f (cmpInfo op).2.1) (F : FnR X.prog X.w X.K X.mg X.base CX0 k f sp) (hr : Room k X.A) : OpR X (compareOp op) (rOwn2 C sp) := by
  intro pins s σ H x y v u Q I rx ry h
  obtain ⟨a, b, dx, dy, fs, gs, rfl, rfl, ha, hb, q⟩ := h
  cases rx
  cases ry
  obtain ⟨oa, da, Ja⟩ := ins_inst I ha
  obtain ⟨ob, db, Jb⟩ := ins_inst I hb
  obtain ⟨mm, hF⟩ := I.fr
  rw [hop]
  exact PySem.W.cmp_K hr.units0 hF I.ok.mod.kin Ja Jb.type (by simp [PySem.W.notFirst]) m.at_ m.fn (run_own (A := X.A) (x := .ref a) (y := .ref b) F hr I rfl rfl q)
/-- rule + n: the right one an int -/
structure OwnInt (K : PySem.W.Frag) (C : Addr) (nm : String) : Prop where
  rev : ∃ rc, findIn K (.ref C) (dunderR nm) = some rc ∧ (rc = none ∨ ∃ g : Addr, rc = some (.ref g))
  fo : ∃ fo, findIn K (.type "int") (PySem.dunder nm) = some fo
  ro : ∃ ro, findIn K (.type "int") (dunderR nm) = some ro
  sub : subIn K (.type "int") (.ref C) = some false
def rOwnI (C : Addr) (sp : Sp) : R2 := fun x y H Q => ∃ a dx fs i, x = .ref a ∧ y = .int i ∧ H a = some (.ins C dx fs) ∧ sp [.ref a, .int i] H Q E0
theorem op_ownI {op : Operator} (c : PySem.W.selfFirst X.K C = true) (m : OwnOp X.K C f (PySem.dunder op.info.2)) (n : OwnInt X.K C op.info.2) (F : FnR X.prog X.w X.K X.mg X.base CX0 k f sp) (hr : Room k X.A) : OpR X (binaryOp op) (rOwnI C sp) := by
  intro pins s σ H x y v u Q I rx ry h
  obtain ⟨a, dx, fs, i, rfl, rfl, ha, q⟩ := h
  cases rx
  obtain ⟨oa, da, Ja⟩ := ins_inst I ha
  obtain ⟨mm, hF⟩ := I.fr
  obtain ⟨rc, h1, h2⟩ := n.rev
  obtain ⟨fo, h3⟩ := n.fo
  obtain ⟨ro, h4⟩ := n.ro
  obtain ⟨t, rfl⟩ := (show ∃ t, u = Value.int i t from ry)
  exact PySem.W.ksp_binT hF I.ok.mod.kin Ja (by rfl) c m.at_ m.fn h1 h2 h3 h4 n.sub (run_own (A := X.A) (x := .ref a) (y := .int i) F hr I rfl ⟨t, rfl⟩ q)
/-- one != other, the class having == alone: the answer turned -/
structure OwnNe (K : PySem.W.Frag) (C f : Addr) : Prop where
  eq : OwnOp K C f "__eq__"
  ne : findIn K (.ref C) "__ne__" = some (some (.builtin "object.__ne__"))
  ob : mroIn K C (.type "object") = some true
def rOwnNe (C : Addr) (sp : Sp) : R2 := fun x y H Q => ∃ a b dx dy fs gs, x = .ref a ∧ y = .ref b ∧ H a = some (.ins C dx fs) ∧ H b = some (.ins C dy gs) ∧ sp [.ref a, .ref b] H (fun v H' => ∃ r, v = .bl r ∧ Q (.bl (!r)) H') E0
theorem op_ownNe (m : OwnNe X.K C f) (F : FnR X.prog X.w X.K X.mg X.base CX0 k f sp) (hr : Room (k + 1) X.A) : OpR X (compareOp .NotEq) (rOwnNe C sp) := by
  intro pins s σ H x y v u Q I rx ry h
  obtain ⟨a, b, dx, dy, fs, gs, rfl, rfl, ha, hb, q⟩ := h
  cases rx
  cases ry
  obtain ⟨oa, da, Ja⟩ := ins_inst I ha
  obtain ⟨ob, db, Jb⟩ := ins_inst I hb
  have kin := I.kIn
  show wpAny (model X.prog X.w) X.A (richCompare .NotEq (.ref a) (.ref b)) (EP X pins σ Q) X.xe s
  unfold richCompare
  simp only [oneThing_ref]
  refine wpAny_holding (wpAny_bind (wpAny_cRoomFor hr.units0 (wpAny_bind (Ja.type.here (wpAny_bind (Jb.type.here ?_))))))
  rw [cmpInfo_NotEq]
  dsimp only
  rw [show (Value.ref C != Value.ref C) = false from by simp]
  simp only [Bool.false_eq_true, if_false]
  refine wpAny_bind (wpAny_pure ?_)
  simp only [Bool.false_eq_true, if_false]
  refine wpAny_bind ?_
  have hin : PySem.W.Looks (model X.prog X.w) s.heap (isInstance (.ref a) (.type "object")) true := Ja.type.andThen (f := fun t => isSubtype t (.type "object")) (PySem.W.looks_mroIn kin m.ob)
  have body : wpAny (model X.prog X.w) X.A (call (.builtin "object.__ne__") [.ref a, .ref b]) (EP X pins σ Q) X.xe s := by
    refine wpAny_call (codeAny_call_builtin PySem.F.cmp_object.ne.plain PySem.F.cmpEntry_ne (PySem.W.check_slot PySem.F.cmpKind_ne PySem.F.cmpSplit_ne hin (PySem.F.cmpArgs_ne _ _) ?_))
    unfold Builtin.«object.__ne__»
    refine wpAny_bind (m := slotArgs "__ne__" 1 _) (wpAny_pure ?_)
    dsimp only
    refine wpAny_bind (m := cRoomFor _ _) (wpAny_cRoomFor (by have := hr.units0; have := hr.un; show X.A.units + 1 < cLine; omega) ?_)
    refine wpAny_bind (PySem.W.ifBound_K kin Ja m.eq.at_ m.eq.fn ?_)
    refine wpAny_call (codeAny_mono (F X.A.in1 X.stack s H [.ref a, .ref b] [.ref a, .ref b] _ E0 hr.in1 I.env0.in1 (.cons rfl (.cons rfl .nil)) q) ?_)
    intro r s' z
    cases r with
    | error e => exact z.elim
    | ok fl =>
      cases fl with
      | ret u =>
        obtain ⟨v, H', I', rv, c, rfl, q2⟩ := I.after z
        obtain rfl : u = Value.bool c := rv
        dsimp only
        refine wpAny_bind (wpAny_truthy_bool ?_)
        exact wpAny_pure ⟨.bl (!c), H', I', rfl, q2⟩
      | _ => exact z.elim
  unfold tryCompare
  simp only [callSpecialIfBound?, bindSpecialIfBound?]
  refine wpAny_bind (wpAny_holding (wpAny_bind (wpAny_bind (wpAny_bind (Ja.type.here ((PySem.W.looks_findIn kin m.ne).here ?_))))))
  refine wpAny_bind (wpAny_askSetting (wpAny_ite ?_))
  have hbn : bindSpecial (.builtin "object.__ne__") (.ref a) = pure (.builtin "object.__ne__", [.ref a]) := PySem.F.cmp_object.ne.bind _
  rw [hbn]
  have step : ∀ (v : Value) (s' : Shared), EP X pins σ Q v s' → PySem.W.CmpBack (EP X pins σ Q) v s' := fun _ _ z => back_of z
  split
  · refine wpAny_bind (wpAny_pure (wpAny_pure (wpAny_bind (wpAny_mono body ?_ fun _ _ z => z))))
    intro v s' z
    have z2 := step v s' z
    cases v <;> first | exact z2.elim | exact wpAny_pure (wpAny_pure (wpAny_pure z))
  · refine wpAny_tryCatch (wpAny_bind (wpAny_pure (wpAny_pure (wpAny_bind (wpAny_mono body ?_ fun _ _ z => z)))))
    intro v s' z
    have z2 := step v s' z
    cases v <;> first | exact z2.elim | exact wpAny_pure (wpAny_pure (wpAny_pure z))
end
end Rk
namespace Rk
open PySem PySem.Spec PyProof.Rows L2

/-! ### lives rank by rank -/
def lifeAt (ls : List (Option Int)) (n : Nat) : Option Int := match ls[n]? with
  | some x => x
  | none => match ls.getLast? with
    | some x => x
    | none => none
def maxO (x y : Option Int) : Option Int := if leO x y = true then y else x
def minO (x y : Option Int) : Option Int := if leO x y = true then x else y
theorem lifeAt_lt {ls : List (Option Int)} {n : Nat} {x : Option Int} (h : ls[n]? = some x) : lifeAt ls n = x := by
  unfold lifeAt
  rw [h]
theorem lifeAt_ge {ls : List (Option Int)} {n : Nat} {x : Option Int} (h : ls.length ≤ n) (hx : ls.getLast? = some x) : lifeAt ls n = x := by
  unfold lifeAt
  rw [List.getElem?_eq_none h, hx]
/-- the first n lives -/
def rows (g : Nat → Option Int) (n : Nat) : List (Option Int) := (List.range n).map g
theorem rows_get {g : Nat → Option Int} {n i : Nat} (h : i < n) : (rows g n)[i]? = some (g i) := by
  unfold rows
  rw [List.getElem?_map, List.getElem?_range h]
  rfl
theorem rows_length (g : Nat → Option Int) (n : Nat) : (rows g n).length = n := by
  unfold rows
  rw [List.length_map, List.length_range]
theorem rows_succ (g : Nat → Option Int) (n : Nat) : rows g (n + 1) = rows g n ++ [g n] := by
  unfold rows
  rw [List.range_succ, List.map_append]
  rfl
theorem rows_take (g : Nat → Option Int) {m n : Nat} (h : m ≤ n) : (rows g n).take m = rows g m := by
  unfold rows
  rw [← List.map_take, List.take_range, Nat.min_eq_left h]
/-- the cut looks at the first n alone -/
theorem cutN_rows (g : Nat → Option Int) {n N : Nat} (h : n ≤ N) : cutN (rows g N) n = cutN (rows g n) n := by
  have key : ∀ m, m ≤ n → cutN (rows g N) m = cutN (rows g n) m := by
    intro m
    induction m using Nat.strongRecOn with
    | ind m ih =>
      intro hm
      match m, hm with
      | 0, _ => rfl
      | 1, _ => rfl
      | j + 2, hm =>
        have e1 : (rows g N)[j + 1]? = (rows g n)[j + 1]? := by rw [rows_get (by omega), rows_get (by omega)]
        have e0 : (rows g N)[j]? = (rows g n)[j]? := by rw [rows_get (by omega), rows_get (by omega)]
        by_cases h : (rows g n)[j + 1]? = (rows g n)[j]?
        · rw [cutN_eq h, cutN_eq (by rw [e1, e0]; exact h)]
          exact ih (j + 1) (by omega) (by omega)
        · rw [cutN_ne h, cutN_ne (by rw [e1, e0]; exact h)]
  exact key n (Nat.le_refl _)
theorem short_rows_succ (g : Nat → Option Int) {n : Nat} (h0 : 0 < n) (h : g n = g (n - 1)) : short (rows g (n + 1)) = short (rows g n) := by
  obtain ⟨j, rfl⟩ : ∃ j, n = j + 1 := ⟨n - 1, by omega⟩
  have e : (rows g (j + 2))[j + 1]? = (rows g (j + 2))[j]? := by
    rw [rows_get (by omega), rows_get (by omega)]
    exact congrArg some h
  unfold short
  rw [rows_length, rows_length, cutN_eq e, cutN_rows g (by omega : j + 1 ≤ j + 2)]
  have hc := cutN_le (rows g (j + 1)) (j + 1)
  rw [rows_take g (by omega), rows_take g hc]
/-- from n on the same: any longer list of them has the same shortest one -/
theorem short_rows (g : Nat → Option Int) {n : Nat} (h0 : 0 < n) (h : ∀ m, n ≤ m → g m = g (n - 1)) : ∀ k, short (rows g (n + k)) = short (rows g n)
  | 0 => rfl
  | k + 1 => by
    rw [← short_rows g h0 h k]
    have e : g (n + k) = g (n + k - 1) := by
      rw [h (n + k) (by omega)]
      by_cases hk : k = 0
      · rw [hk]
        rfl
      · exact (h (n + k - 1) (by omega)).symm
    exact short_rows_succ g (by omega : 0 < n + k) e
theorem rows_lifeAt (ls : List (Option Int)) : rows (lifeAt ls) ls.length = ls := by
  apply List.ext_getElem?
  intro i
  by_cases h : i < ls.length
  · rw [rows_get h, List.getElem?_eq_getElem h, lifeAt_lt (List.getElem?_eq_getElem h)]
  · rw [List.getElem?_eq_none (by rw [rows_length]; omega), List.getElem?_eq_none (by omega)]
theorem lifeAt_const {ls : List (Option Int)} (h0 : 0 < ls.length) : ∀ m, ls.length ≤ m → lifeAt ls m = lifeAt ls (ls.length - 1) := by
  intro m hm
  obtain ⟨x, hx⟩ : ∃ x, ls.getLast? = some x := by
    cases ls with
    | nil => simp at h0
    | cons a r => exact ⟨_, List.getLast?_eq_some_getLast (by simp)⟩
  rw [lifeAt_ge hm hx]
  rw [List.getLast?_eq_getElem?] at hx
  rw [lifeAt_lt hx]
/-- the life of a rank does not change by cutting -/
theorem lifeAt_cut {ls : List (Option Int)} (h0 : 0 < ls.length) : ∀ n, 0 < n → n ≤ ls.length → ∀ i, lifeAt (ls.take (cutN ls n)) i = lifeAt (ls.take n) i := by
  intro n
  induction n using Nat.strongRecOn with
  | ind n ih =>
    intro hn hl i
    match n, hn, hl with
    | 1, _, _ => rfl
    | j + 2, _, hl =>
      by_cases h : ls[j + 1]? = ls[j]?
      · rw [cutN_eq h, ih (j + 1) (by omega) (by omega) (by omega) i]
        have lj : (ls.take (j + 1)).length = j + 1 := by rw [List.length_take]; omega
        have lj2 : (ls.take (j + 2)).length = j + 2 := by rw [List.length_take]; omega
        have last1 : (ls.take (j + 1)).getLast? = ls[j]? := by
          rw [List.getLast?_eq_getElem?, lj]
          exact List.getElem?_take_of_lt (by omega)
        have last2 : (ls.take (j + 2)).getLast? = ls[j + 1]? := by
          rw [List.getLast?_eq_getElem?, lj2]
          exact List.getElem?_take_of_lt (by omega)
        have hx : ls[j]? = some ls[j] := List.getElem?_eq_getElem (by omega)
        by_cases hi : i < j + 1
        · have a1 : (ls.take (j + 1))[i]? = some ls[i] := by rw [List.getElem?_take_of_lt hi]; exact List.getElem?_eq_getElem (by omega)
          have a2 : (ls.take (j + 2))[i]? = some ls[i] := by rw [List.getElem?_take_of_lt (by omega)]; exact List.getElem?_eq_getElem (by omega)
          rw [lifeAt_lt a1, lifeAt_lt a2]
        · rw [lifeAt_ge (by omega) (last1.trans hx)]
          by_cases hi2 : i < j + 2
          · have e : i = j + 1 := by omega
            subst e
            have a2 : (ls.take (j + 2))[j + 1]? = some ls[j] := by rw [List.getElem?_take_of_lt (by omega), h, hx]
            rw [lifeAt_lt a2]
          · rw [lifeAt_ge (by omega) (last2.trans (h.trans hx))]
      · rw [cutN_ne h]
theorem lifeAt_short {ls : List (Option Int)} (h0 : 0 < ls.length) (i : Nat) : lifeAt (short ls) i = lifeAt ls i := by
  unfold short
  rw [lifeAt_cut h0 _ h0 (Nat.le_refl _), List.take_length]
theorem short_len_pos {ls : List (Option Int)} (h : 0 < ls.length) : 0 < (short ls).length := by
  have := cutN_pos ls ls.length h
  unfold short
  rw [List.length_take]
  omega
theorem short_len_le (ls : List (Option Int)) : (short ls).length ≤ ls.length := by
  unfold short
  rw [List.length_take]
  omega
/-- lives of ranks by g, at n and more the same: whatever list of them is taken -/
theorem short_any (g : Nat → Option Int) {n m : Nat} (h0 : 0 < n) (h : ∀ k, n ≤ k → g k = g (n - 1)) (hm : n ≤ m) : short (rows g m) = short (rows g n) := by
  obtain ⟨k, rfl⟩ : ∃ k, m = n + k := ⟨m - n, by omega⟩
  exact short_rows g h0 h k
/-! ### lives as data -/
def dLs (ls : List (Option Int)) : PyData := .tuple (ls.map dO)
theorem dpAll_lv {K : PySem.W.Frag} {H : Hp} : ∀ ls : List (Option Int), DpAll K H (ls.map lv) (ls.map dO)
  | [] => .nil
  | x :: r => .cons (dp_lv x) (dpAll_lv r)
theorem dp_lives {K : PySem.W.Frag} {H : Hp} {a : Addr} {ls : List (Option Int)} (h : SqT K H a (ls.map lv)) : Dp K H (.ref a) (dLs ls) := .tup h (dpAll_lv ls)
theorem eqv_lv (x y : Option Int) : PyData.eqv (dO x) (dO y) = decide (x = y) := by
  cases x with
  | none => cases y <;> simp [dO, PyData.eqv]
  | some i =>
    cases y with
    | none => simp [dO, PyData.eqv]
    | some j =>
      show (i == j) = decide (some i = some j)
      rw [Bool.eq_iff_iff]
      simp
theorem eqv_all : ∀ ls ms : List (Option Int), PyData.eqvAll (ls.map dO) (ms.map dO) = decide (ls = ms)
  | [], [] => rfl
  | [], _ :: _ => rfl
  | _ :: _, [] => rfl
  | x :: r, y :: q => by
    show (PyData.eqv (dO x) (dO y) && PyData.eqvAll (r.map dO) (q.map dO)) = decide (x :: r = y :: q)
    rw [eqv_lv, eqv_all r q, Bool.eq_iff_iff]
    simp
theorem eqv_lives (ls ms : List (Option Int)) : PyData.eqv (dLs ls) (dLs ms) = decide (ls = ms) := eqv_all ls ms
theorem lay_lives : ∀ ls : List (Option Int), PyData.canLayAll0 (ls.map dO) = true ∧ PyData.depthAll (ls.map dO) = 0
  | [] => ⟨rfl, rfl⟩
  | x :: r => by
    have ih := lay_lives r
    constructor
    · show (PyData.canLay0 (dO x) && PyData.canLayAll0 (r.map dO)) = true
      rw [ih.1]
      cases x <;> rfl
    · show max (PyData.depth (dO x)) (PyData.depthAll (r.map dO)) = 0
      rw [ih.2]
      cases x <;> rfl
theorem shaped_lives (ls : List (Option Int)) : SeqAt.shaped (dLs ls) = true := by
  have h := lay_lives ls
  unfold SeqAt.shaped
  have e1 : PyData.canLay0 (dLs ls) = true := h.1
  have e2 : PyData.depth (dLs ls) = 1 := by
    show PyData.depthAll (ls.map dO) + 1 = 1
    rw [h.2]
  rw [e1, e2]
  rfl
def addO (n : Int) (x : Option Int) : Option Int := x.map (· + n)
end Rk
namespace Rk
open PySem PySem.Spec PyProof.Rows L2
open Sem (wp)

/-! ### list(zip(a, b)) of two lists -/
theorem zip_no_len : typeLookup (.type "zip") "__len__" = pure none := am_miss_of_fast (by decide +kernel)
theorem zip_no_hint : typeLookup (.type "zip") "__length_hint__" = pure none := am_miss_of_fast (by decide +kernel)
structure ZlSt (h : Heap) (z TI TO i1 i2 l1 l2 S : Addr) (xs ys : Array Value) (k : Nat) : Prop where
  pi : IsPair h TI (.ref i1) (.ref i2)
  h1 : h.IsListIter i1 l1 k
  h2 : h.IsListIter i2 l2 k
  hl1 : h.IsList l1 xs
  hl2 : h.IsList l2 ys
  hz : (IsZip h z TI TO .none ∧ ∃ a b, IsPair h TO a b) ∨ ∃ T f oT, IsZipHeld h z TI TO T f ∧ h.get? T = some oT ∧ T ≠ z ∧ T ≠ i1 ∧ T ≠ i2 ∧ T ≠ S
/-- the pairs laid so far -/
structure ZlG (xs ys : Array Value) (lo : Addr) (h : Heap) (as : List Addr) : Prop where
  rise : as.Pairwise (· < ·)
  above : ∀ a ∈ as, lo < a
  pairs : ∀ (j : Nat) (a : Addr), as[j]? = some a → ∃ x y, xs[j]? = some x ∧ ys[j]? = some y ∧ h.get? a = some { cls := .type "tuple", data := .seq #[x, y] }
theorem ZlG.there {xs ys : Array Value} {lo : Addr} {h : Heap} {as : List Addr} (g : ZlG xs ys lo h as) {a : Addr} (ha : a ∈ as) : a < h.objs.size := by
  obtain ⟨j, hj⟩ := List.mem_iff_getElem?.mp ha
  obtain ⟨_, _, _, _, e⟩ := g.pairs j a hj
  exact Heap.lt_size e
structure ZlOff (z TI TO i1 i2 l1 l2 S : Addr) : Prop where
  z : z ≠ S
  TI : TI ≠ S
  TO : TO ≠ S
  i1 : i1 ≠ S
  i2 : i2 ≠ S
  l1 : l1 ≠ S
  l2 : l2 ≠ S
theorem ZlSt.keep {h h' : Heap} {z TI TO i1 i2 l1 l2 S : Addr} {xs ys : Array Value} {k : Nat} (st : ZlSt h z TI TO i1 i2 l1 l2 S xs ys k) (o : ZlOff z TI TO i1 i2 l1 l2 S) (hk : ∀ b u, b ≠ S → h.get? b = some u → h'.get? b = some u) : ZlSt h' z TI TO i1 i2 l1 l2 S xs ys k := by
  obtain ⟨a1, a2, a3, a4, a5, a6⟩ := st
  refine ⟨hk _ _ o.TI a1, a2.at fun u e => hk _ u o.i1 e, a3.at fun u e => hk _ u o.i2 e, a4.at fun u e => hk _ u o.l1 e, a5.at fun u e => hk _ u o.l2 e, ?_⟩
  rcases a6 with ⟨hz, a, b, hTO⟩ | ⟨T, f, oT, hz, hT, r1, r2, r3, r4⟩
  · exact .inl ⟨hk _ _ o.z hz, a, b, hk _ _ o.TO hTO⟩
  · exact .inr ⟨T, f, oT, hk _ _ o.z hz, hk _ _ r4 hT, r1, r2, r3, r4⟩
section
variable {prog : Program} {w : World} {A : Around} {E : Value → Shared → Prop} {s : Shared}
theorem zl_item {z TI TO i1 i2 l1 l2 S : Addr} {xs ys : Array Value} {i : Nat} {x y : Value} {Q : Option Value → Shared → Prop} (D : ZipApart z TI TO i1 i2 l1 l2) (st : ZlSt s.heap z TI TO i1 i2 l1 l2 S xs ys i) (hS : S < s.heap.objs.size) (ex : xs[i]? = some x) (ey : ys[i]? = some y)
    (hQ : ∀ h', ZlSt h' z TI TO i1 i2 l1 l2 S xs ys (i + 1) → h'.get? s.heap.objs.size = some { cls := .type "tuple", data := .seq #[x, y] } →
      (∀ b o, b ≠ z → b ≠ TO → b ≠ i1 → b ≠ i2 → s.heap.get? b = some o → h'.get? b = some o) → Q (some (.ref s.heap.objs.size)) { s with heap := h' }) :
    wpAny (model prog w) A (pyNext (.ref z)) Q E s := by
  obtain ⟨hTI, h1, h2, hl1, hl2, hz⟩ := st
  have lt : ∀ {c o}, s.heap.get? c = some o → s.heap.objs.size ≠ c := fun e => Nat.ne_of_gt (Heap.lt_size e)
  have n1 : s.heap.objs.size ≠ i1 := let ⟨_, e, _⟩ := h1; lt e
  have n2 : s.heap.objs.size ≠ i2 := let ⟨_, e, _⟩ := h2; lt e
  rcases hz with ⟨hz, a, b, hTO⟩ | ⟨T, f, oT, hz, hT, r1, r2, r3, r4⟩
  · refine wpAny_pyNext_zip_item D hz hTI hTO h1 h2 hl1 hl2 ex ey fun h' a1 a2 a3 a4 a5 a6 hk => ?_
    exact hQ h' ⟨hk _ _ D.TIz D.TITO D.TIi1 D.TIi2 hTI, a3, a4, hl1.at fun o e => hk _ o D.l1z D.l1TO D.l1i1 D.l1i2 e, hl2.at fun o e => hk _ o D.l2z D.l2TO D.l2i1 D.l2i2 e,
        .inr ⟨s.heap.objs.size, false, _, a1, a5, lt hz, n1, n2, Nat.ne_of_gt hS⟩⟩ a5 hk
  · refine wpAny_pyNext_zip_item_held D hz hT hTI h1 h2 hl1 hl2 ex ey fun h' a1 a3 a4 a5 a6 hk => ?_
    exact hQ h' ⟨hk _ _ D.TIz D.TIi1 D.TIi2 hTI, a3, a4, hl1.at fun o e => hk _ o D.l1z D.l1i1 D.l1i2 e, hl2.at fun o e => hk _ o D.l2z D.l2i1 D.l2i2 e,
        .inr ⟨T, true, oT, a1, hk _ _ r1 r2 r3 hT, r1, r2, r3, r4⟩⟩ a5 fun b o c1 _ c3 c4 e => hk b o c1 c3 c4 e
theorem zl_done {z TI TO i1 i2 l1 l2 S : Addr} {xs ys : Array Value} {i : Nat} {Q : Option Value → Shared → Prop} (hh : A.handled = none) (D : ZipApart z TI TO i1 i2 l1 l2) (st : ZlSt s.heap z TI TO i1 i2 l1 l2 S xs ys i) (hend : xs[i]? = none ∨ ys[i]? = none)
    (hQ : ∀ h', (∀ b o, b ≠ z → b ≠ TO → b ≠ i1 → b ≠ i2 → s.heap.get? b = some o → h'.get? b = some o) → Q none { s with heap := h' }) :
    wpAny (model prog w) A (pyNext (.ref z)) Q E s := by
  obtain ⟨hTI, h1, h2, hl1, hl2, hz⟩ := st
  rcases hz with ⟨hz, a, b, hTO⟩ | ⟨T, f, oT, hz, hT, r1, r2, r3, r4⟩
  · exact wpAny_pyNext_zip_end hh D hz hTI hTO h1 h2 hl1 hl2 hend fun h' hk => hQ h' hk
  · exact wpAny_pyNext_zip_end_held hh D hz hT hTI h1 h2 hl1 hl2 hend fun h' hk => hQ h' fun b o c1 _ c3 c4 e => hk b o c1 c3 c4 e
end
section
variable {prog : Program} {w : World} {A : Around} {s : Shared} {R : Result → Shared → Prop}
theorem zl_loop {z TI TO i1 i2 l1 l2 S : Addr} {xs ys : Array Value} {n : Nat} (hh : A.handled = none) (D : ZipApart z TI TO i1 i2 l1 l2) (O : ZlOff z TI TO i1 i2 l1 l2 S) (lw : z < S ∧ TO < S ∧ i1 < S ∧ i2 < S) (hn : n = min xs.size ys.size) (hsz : n ≤ sizeLine) (res : Value) {h₁ : Heap}
    (hR : ∀ h' tk acc c as, (∀ b o, b ≠ S → b ≠ z → b ≠ TO → b ≠ i1 → b ≠ i2 → h₁.get? b = some o → h'.get? b = some o) → h'.get? S = some { cls := .type "list", dict := none, data := .seq acc c, slots := #[] } → as.length = n → ZlG xs ys S h' as →
      acc.toList = as.map Value.ref → R (.ok (.ret res)) { s with heap := h', toks := tk }) :
    ∀ (k i : Nat) (h : Heap) (tk c : Nat) (acc : Array Value) (as : List Addr), n - i = k → i ≤ n → ZlSt h z TI TO i1 i2 l1 l2 S xs ys i → (∀ b o, b ≠ S → b ≠ z → b ≠ TO → b ≠ i1 → b ≠ i2 → h₁.get? b = some o → h.get? b = some o) →
      h.get? S = some { cls := .type "list", dict := none, data := .seq acc c, slots := #[] } → acc.toList = as.map Value.ref → as.length = i → ZlG xs ys S h as →
      codeAny (model prog w) A (.builtin "list.extend.loop" ⟨[.ref S, .ref z, res], []⟩) R { s with heap := h, toks := tk } := by
  obtain ⟨w1, w2, w3, w4⟩ := lw
  have ab : ∀ b, S < b → b ≠ z ∧ b ≠ TO ∧ b ≠ i1 ∧ b ≠ i2 := fun b hb => ⟨Nat.ne_of_gt (Nat.lt_trans w1 hb), Nat.ne_of_gt (Nat.lt_trans w2 hb), Nat.ne_of_gt (Nat.lt_trans w3 hb), Nat.ne_of_gt (Nat.lt_trans w4 hb)⟩
  intro k
  induction k with
  | zero =>
    intro i h tk c acc as hk hi hst hkeep hS hacc hal hG
    have hin : i = n := by omega
    have hend : xs[i]? = none ∨ ys[i]? = none := by
      rcases Nat.le_total xs.size ys.size with q | q
      · exact .inl (Array.getElem?_eq_none (by omega))
      · exact .inr (Array.getElem?_eq_none (by omega))
    refine codeAny_builtin PySem.F.entry_extend_loop ?_
    rw [Around.under_plainId PySem.F.plain_extend_loop _]
    show wpAny _ A.in1 (pyNext (.ref z) >>= _) _ _ _
    refine wpAny_bind (zl_done (s := { s with heap := h, toks := tk }) (A := A.in1) hh D hst hend fun h' he => ?_)
    refine wpAny_pure (hR h' tk acc c as (fun b o q1 q2 q3 q4 q5 e => he b o q2 q3 q4 q5 (hkeep b o q1 q2 q3 q4 q5 e)) (he S _ O.z.symm O.TO.symm O.i1.symm O.i2.symm hS) (by omega) ⟨hG.rise, hG.above, fun j a hj => ?_⟩ hacc)
    obtain ⟨x, y, ex, ey, e3⟩ := hG.pairs j a hj
    obtain ⟨b1, b2, b3, b4⟩ := ab a (hG.above a (List.mem_of_getElem? hj))
    exact ⟨x, y, ex, ey, he a _ b1 b2 b3 b4 e3⟩
  | succ k ih =>
    intro i h tk c acc as hk hi hst hkeep hS hacc hal hG
    have hlt : i < n := by omega
    have hsz2 : acc.size = i := by rw [← Array.length_toList, hacc, List.length_map, hal]
    have hSl : S < h.objs.size := Heap.lt_size hS
    have ex := Array.getElem?_eq_getElem (show i < xs.size by omega)
    have ey := Array.getElem?_eq_getElem (show i < ys.size by omega)
    refine codeAny_builtin PySem.F.entry_extend_loop ?_
    rw [Around.under_plainId PySem.F.plain_extend_loop _]
    show wpAny _ A.in1 (pyNext (.ref z) >>= _) _ _ _
    refine wpAny_bind (zl_item (s := { s with heap := h, toks := tk }) (S := S) D hst hSl ex ey fun h' hst' ht hkp => ?_)
    dsimp only at ht hkp ⊢
    have hS' := hkp S _ O.z.symm O.TO.symm O.i1.symm O.i2.symm hS
    have up : ∀ b o, b ≠ S → h'.get? b = some o → (h'.update S (Obj.mapSeq (·.push (Value.ref h.objs.size)))).get? b = some o := fun b o hb e => (Heap.get?_update_other _ _ (Ne.symm hb)).trans e
    show wpAny _ A.in1 (updateSeq S (·.push (Value.ref h.objs.size)) >>= _) _ _ _
    refine wpAny_bind ?_
    refine wpAny_updateSeq hS' rfl (wpAny_pure ⟨plainId_quiet PySem.F.plain_extend_loop _, ih (i + 1) _ tk _ (acc.push (Value.ref h.objs.size)) (as ++ [h.objs.size]) (by omega) hlt (hst'.keep O up)
      (fun b o q1 q2 q3 q4 q5 e => up b o q1 (hkp b o q2 q3 q4 q5 (hkeep b o q1 q2 q3 q4 q5 e))) (Heap.get?_update_self _ hS' rfl) (by rw [Array.toList_push, hacc, List.map_append]; rfl) (by rw [List.length_append, hal]; rfl) ⟨?_, ?_, ?_⟩⟩) (by rw [hsz2]; omega) (by show (acc.push (Value.ref h.objs.size)).size ≤ sizeLine + 1; rw [Array.size_push, hsz2]; omega)
    · refine List.pairwise_append.mpr ⟨hG.rise, List.pairwise_singleton _ _, fun a ha b hb => ?_⟩
      rw [List.mem_singleton.mp hb]
      exact hG.there ha
    · intro a ha
      rcases List.mem_append.mp ha with ha | ha
      · exact hG.above a ha
      · rw [List.mem_singleton.mp ha]; exact hSl
    · intro j b hj
      rcases Nat.lt_trichotomy j as.length with q | q | q
      · rw [List.getElem?_append_left q] at hj
        obtain ⟨x, y, ex', ey', e3⟩ := hG.pairs j b hj
        have hb := hG.above b (List.mem_of_getElem? hj)
        obtain ⟨b1, b2, b3, b4⟩ := ab b hb
        exact ⟨x, y, ex', ey', up b _ (Nat.ne_of_gt hb) (hkp b _ b1 b2 b3 b4 e3)⟩
      · subst q
        have hb : h.objs.size = b := by simpa using hj
        subst hb
        subst hal
        exact ⟨_, _, ex, ey, up _ _ (Nat.ne_of_gt hSl) ht⟩
      · have hnone : (as ++ [h.objs.size])[j]? = none := List.getElem?_eq_none (by rw [List.length_append, List.length_singleton]; omega)
        rw [hnone] at hj; cases hj
end
section
variable {prog : Program} {w : World} {A : Around} {E : Value → Shared → Prop} {s : Shared} {z TI TO i1 i2 l1 l2 : Addr} {xs ys : Array Value} {n : Nat}
theorem zl_extend {R : Result → Shared → Prop} {S : Addr} (hh : A.handled = none) (D : ZipApart z TI TO i1 i2 l1 l2) (O : ZlOff z TI TO i1 i2 l1 l2 S) (lw : z < S ∧ TO < S ∧ i1 < S ∧ i2 < S) (hn : n = min xs.size ys.size) (hsz : n ≤ sizeLine)
    (hz : IsZip s.heap z TI TO .none) (st : ZlSt s.heap z TI TO i1 i2 l1 l2 S xs ys 0) (res : Value) (c₀ : Nat) (hS : s.heap.get? S = some { cls := .type "list", data := .seq #[] c₀ })
    (hR : ∀ h' tk acc c as, (∀ b o, b ≠ S → b ≠ z → b ≠ TO → b ≠ i1 → b ≠ i2 → s.heap.get? b = some o → h'.get? b = some o) → h'.get? S = some { cls := .type "list", dict := none, data := .seq acc c, slots := #[] } → as.length = n → ZlG xs ys S h' as →
      acc.toList = as.map Value.ref → R (.ok (.ret res)) { s with heap := h', toks := tk }) :
    wpAny (model prog w) A.in1 (Builtin.List.listExtendWith (.ref S) (.ref z) res)
      (fun fin s' => match fin with | .done f => R (.ok f) s' | .again c' => c'.quiet = true ∧ codeAny (model prog w) A c' R s') (fun e s' => R (.error e) s') s := by
  have hT : s.TypeIs (.ref z) "zip" := ⟨_, hz, rfl⟩
  unfold Builtin.List.listExtendWith
  refine wpAny_bind (wpAny_typeOf hT ?_)
  have h1 : Builtin.List.listSameRef (.ref S) (.ref z) = false := by simp [Builtin.List.listSameRef, O.z.symm]
  have h2 : (Value.type "zip" == Value.type "list") = false := by decide
  have h3 : (Value.type "zip" == Value.type "tuple") = false := by decide
  simp only [h1, h2, h3, Bool.or_false, Bool.false_eq_true, if_false]
  refine wpAny_bind (wpAny_pyIter_zip hz ?_)
  refine wpAny_bind (wpAny_holding ?_)
  unfold Builtin.List.listLengthHint
  refine wpAny_bind (wpAny_specialOf hT zip_no_len ?_)
  show wpAny _ A.in1 (specialOf (Value.ref z) (Str.ofString "__length_hint__") >>= _) _ _ _
  refine wpAny_bind (wpAny_specialOf hT zip_no_hint ?_)
  refine wpAny_pure ?_
  show wpAny _ A.in1 (rule "list.extend.makes-room" >>= fun _ => Builtin.List.listTouch (.ref S) >>= fun _ =>
    again (.builtin "list.extend.loop" ⟨[.ref S, .ref z, res], []⟩)) _ _ _
  refine wpAny_bind (wpAny_rule ?_)
  refine wpAny_bind ?_
  show wpAny _ A.in1 (updateSeq S (·.push .none) >>= fun _ => updateSeq S (·.pop)) _ _ _
  refine wpAny_bind (wpAny_updateSeq hS rfl ?_)
  have hS₂ := Heap.get?_update_self (Obj.mapSeq (·.push Value.none)) hS rfl
  refine wpAny_updateSeq (hz := by seq_fits) hS₂ rfl ?_
  have hS₃ := Heap.get?_update_self (Obj.mapSeq (·.pop)) hS₂ rfl
  have oth : ∀ b o, b ≠ S → s.heap.get? b = some o → ((s.heap.update S (Obj.mapSeq (·.push Value.none))).update S (Obj.mapSeq (·.pop))).get? b = some o :=
    fun b o hb e => (Heap.get?_update_other _ _ (Ne.symm hb)).trans ((Heap.get?_update_other _ _ (Ne.symm hb)).trans e)
  exact wpAny_pure ⟨plainId_quiet PySem.F.plain_extend_loop _, zl_loop (s := s) (h₁ := s.heap) hh D O lw hn hsz res hR n 0 _ _ _ _ [] (Nat.sub_zero _) (Nat.zero_le _) (st.keep O oth) (fun b o q1 _ _ _ _ e => oth b o q1 e) hS₃ rfl rfl
    ⟨List.Pairwise.nil, (fun _ ha => nomatch ha), (fun j a hj => by simp at hj)⟩⟩
theorem zl_call {Q : Value → Shared → Prop} (hh : A.handled = none) (D : ZipApart z TI TO i1 i2 l1 l2) (hz : IsZip s.heap z TI TO .none) (hTI : IsPair s.heap TI (.ref i1) (.ref i2)) (hTO : ∃ a b, IsPair s.heap TO a b) (h1 : s.heap.IsListIter i1 l1 0) (h2 : s.heap.IsListIter i2 l2 0)
    (hl1 : s.heap.IsList l1 xs) (hl2 : s.heap.IsList l2 ys) (hn : n = min xs.size ys.size) (hsz : n ≤ sizeLine)
    (hQ : ∀ h' tk acc c as, (∀ b o, b ≠ z → b ≠ TO → b ≠ i1 → b ≠ i2 → s.heap.get? b = some o → h'.get? b = some o) → h'.get? s.heap.objs.size = some { cls := .type "list", dict := none, data := .seq acc c, slots := #[] } → as.length = n → ZlG xs ys s.heap.objs.size h' as →
      acc.toList = as.map Value.ref → Q (.ref s.heap.objs.size) { s with heap := h', toks := tk }) :
    wpAny (model prog w) A (call (.type "list") [.ref z]) Q E s := by
  have lt : ∀ {c o}, s.heap.get? c = some o → c < s.heap.objs.size := fun e => Heap.lt_size e
  obtain ⟨a0, b0, eTO⟩ := id hTO
  obtain ⟨o1, e1, _⟩ := id h1
  obtain ⟨o2, e2, _⟩ := id h2
  obtain ⟨o3, e3, _⟩ := id hl1
  obtain ⟨o4, e4, _⟩ := id hl2
  refine callType_codes (Q₁ := fun obj s₁ => obj = .ref s.heap.objs.size ∧ s₁ = { s with heap := s.heap.push { cls := .type "list", data := .seq #[] } }) PySem.F.called_list (PySem.F.typeCall_list_1 _) PySem.F.entry_list_init
    (code_list_new _ ⟨rfl, rfl⟩) fun obj s₁ h₁ => ?_
  obtain ⟨rfl, rfl⟩ := h₁
  have hS : (s.heap.push { cls := .type "list", data := .seq #[] }).get? s.heap.objs.size = some { cls := .type "list", data := .seq #[] } := Heap.get?_push_size _ rfl
  have O : ZlOff z TI TO i1 i2 l1 l2 s.heap.objs.size := ⟨Nat.ne_of_lt (lt hz), Nat.ne_of_lt (lt hTI), Nat.ne_of_lt (lt eTO), Nat.ne_of_lt (lt e1), Nat.ne_of_lt (lt e2), Nat.ne_of_lt (lt e3), Nat.ne_of_lt (lt e4)⟩
  have oth : ∀ b o, b ≠ s.heap.objs.size → s.heap.get? b = some o → ((s.heap.push { cls := .type "list", data := .seq #[] }).update s.heap.objs.size (Obj.mapSeq (fun _ => (#[] : Array Value)))).get? b = some o :=
    fun b o hb e => (Heap.get?_update_other _ _ (Ne.symm hb)).trans (Heap.get?_push_of_some _ e)
  have st : ZlSt s.heap z TI TO i1 i2 l1 l2 s.heap.objs.size xs ys 0 := ⟨hTI, h1, h2, hl1, hl2, .inl ⟨hz, hTO⟩⟩
  refine ⟨⟨_, hS, rfl⟩, PySem.F.args_list_init_2 _ _, ?_⟩
  show wpAny _ A.in1.in1 (do let old ← Builtin.List.listItems (.ref s.heap.objs.size); Builtin.List.listUpdate (.ref s.heap.objs.size) (fun _ => #[]); letGo old.toList.reverse; Builtin.List.listExtendWith (.ref s.heap.objs.size) (.ref z) .none) _ _ _
  refine wpAny_bind ?_
  unfold Builtin.List.listItems
  refine wpAny_bind (wpAny_seqItems hS rfl (wpAny_pure ?_))
  show wpAny _ A.in1.in1 (updateSeq s.heap.objs.size (fun _ => #[]) >>= fun _ => letGo (#[] : Array Value).toList.reverse >>= fun _ => Builtin.List.listExtendWith (.ref s.heap.objs.size) (.ref z) .none) _ _ _
  refine wpAny_bind (wpAny_updateSeq hS rfl ?_)
  have hS₂ := Heap.get?_update_self (Obj.mapSeq (fun _ => (#[] : Array Value))) hS rfl
  refine wpAny_bind (wpAny_letGo ?_)
  refine zl_extend (n := n) (A := A.in1) hh D O ⟨lt hz, lt eTO, lt e1, lt e2⟩ hn hsz (oth _ _ O.z hz) ?_ .none _ hS₂ fun h' tk acc c as hk hS' hl hG hacc => ?_
  · obtain ⟨a1, a2, a3, a4, a5, a6⟩ := st
    refine ⟨oth _ _ O.TI hTI, h1.at fun u e => oth _ u O.i1 e, h2.at fun u e => oth _ u O.i2 e, hl1.at fun u e => oth _ u O.l1 e, hl2.at fun u e => oth _ u O.l2 e, .inl ⟨oth _ _ O.z hz, a0, b0, oth _ _ O.TO eTO⟩⟩
  · exact ⟨rfl, hQ h' tk acc c as (fun b o q1 q2 q3 q4 e => hk b o (Nat.ne_of_lt (lt e)) q1 q2 q3 q4 (oth b o (Nat.ne_of_lt (lt e)) e)) hS' hl hG hacc⟩
end
end Rk
namespace Rk
open PySem PySem.Spec PyProof.Rows L2
open Sem (wp)
/-- pairs laid at new places -/
def layT (H : Hp) : List (Addr × V × V) → Hp
  | [] => H
  | (t, x, y) :: r => upd (layT H r) t (.tup [x, y])
theorem layT_off {H : Hp} {b : Addr} : ∀ l : List (Addr × V × V), (∀ p ∈ l, b ≠ p.1) → layT H l b = H b
  | [], _ => rfl
  | (t, x, y) :: r, h => by
    show upd (layT H r) t (.tup [x, y]) b = H b
    rw [upd_ne (h _ List.mem_cons_self), layT_off r fun p hp => h p (List.mem_cons_of_mem _ hp)]
theorem layT_on {H : Hp} : ∀ l : List (Addr × V × V), (l.map Prod.fst).Nodup → ∀ t x y, (t, x, y) ∈ l → layT H l t = some (.tup [x, y])
  | [], _, _, _, _, h => nomatch h
  | (t0, x0, y0) :: r, n, t, x, y, h => by
    rw [List.map_cons, List.nodup_cons] at n
    show upd (layT H r) t0 (.tup [x0, y0]) t = _
    rcases List.mem_cons.mp h with e | h
    · cases e
      exact upd_same
    · rw [upd_ne (fun z => n.1 (by rw [← z]; exact List.mem_map.mpr ⟨_, h, rfl⟩)), layT_on r n.2 t x y h]
theorem layT_some {H : Hp} {b : Addr} {o : HO} : ∀ l : List (Addr × V × V), layT H l b = some o → H b = some o ∨ ∃ x y, (b, x, y) ∈ l ∧ o = .tup [x, y]
  | [], h => .inl h
  | (t, x, y) :: r, h => by
    by_cases z : b = t
    · subst z
      rw [show layT H ((b, x, y) :: r) = upd (layT H r) b (.tup [x, y]) from rfl, upd_same] at h
      exact .inr ⟨x, y, List.mem_cons_self, (Option.some.inj h).symm⟩
    · rw [show layT H ((t, x, y) :: r) = upd (layT H r) t (.tup [x, y]) from rfl, upd_ne z] at h
      rcases layT_some r h with q | ⟨x', y', q, e⟩
      · exact .inl q
      · exact .inr ⟨x', y', List.mem_cons_of_mem _ q, e⟩
def zip3 : List Addr → List V → List V → List (Addr × V × V)
  | t :: ts, x :: xs, y :: ys => (t, x, y) :: zip3 ts xs ys
  | _, _, _ => []
theorem zip3_get : ∀ (ts : List Addr) (xs ys : List V) (i : Nat) t x y, ts[i]? = some t → xs[i]? = some x → ys[i]? = some y → (t, x, y) ∈ zip3 ts xs ys
  | [], _, _, _, _, _, _, h, _, _ => by simp at h
  | _ :: _, [], _, _, _, _, _, _, h, _ => by simp at h
  | _ :: _, _ :: _, [], _, _, _, _, _, _, h => by simp at h
  | t0 :: ts, x0 :: xs, y0 :: ys, 0, t, x, y, h1, h2, h3 => by
    cases h1
    cases h2
    cases h3
    exact List.mem_cons_self
  | t0 :: ts, x0 :: xs, y0 :: ys, i + 1, t, x, y, h1, h2, h3 => List.mem_cons_of_mem _ (zip3_get ts xs ys i t x y h1 h2 h3)
theorem zip3_mem : ∀ (ts : List Addr) (xs ys : List V) t x y, (t, x, y) ∈ zip3 ts xs ys → ∃ i : Nat, ts[i]? = some t ∧ xs[i]? = some x ∧ ys[i]? = some y
  | [], _, _, _, _, _, h => by simp [zip3] at h
  | _ :: _, [], _, _, _, _, h => by simp [zip3] at h
  | _ :: _, _ :: _, [], _, _, _, h => by simp [zip3] at h
  | t0 :: ts, x0 :: xs, y0 :: ys, t, x, y, h => by
    rcases List.mem_cons.mp h with e | h
    · cases e
      exact ⟨0, rfl, rfl, rfl⟩
    · obtain ⟨i, h1, h2, h3⟩ := zip3_mem ts xs ys t x y h
      exact ⟨i + 1, h1, h2, h3⟩
theorem zip3_fst : ∀ (ts : List Addr) (xs ys : List V), ((zip3 ts xs ys).map Prod.fst).Sublist ts
  | [], _, _ => by cases ‹List V› <;> exact List.nil_sublist _
  | _ :: _, [], _ => List.nil_sublist _
  | _ :: _, _ :: _, [] => List.nil_sublist _
  | t :: ts, x :: xs, y :: ys => (zip3_fst ts xs ys).cons_cons t
def kLZ (K : PySem.W.Frag) (vs : List V) (H : Hp) (Q : VK) : Prop := ∃ (a b : Addr) (xs ys : List V), vs = [.ref a, .ref b] ∧ SqL K H a xs ∧ SqL K H b ys ∧ xs.length = ys.length ∧
  ∀ (D : Addr) (ts : List Addr) (H' : Hp), Same H H' → H D = none → H' D = some (.lst (ts.map V.ref)) → ts.length = xs.length →
    (∀ (i : Nat) t x y, ts[i]? = some t → xs[i]? = some x → ys[i]? = some y → H' t = some (.tup [x, y]) ∧ H t = none) → Q (.ref D) H'
def tLZ (K : PySem.W.Frag) (ta : TA) : TE := fun σ H Q => ta σ H fun vs H1 => kLZ K vs H1 Q
theorem vals_refs : ∀ ts : List Addr, Vals (ts.map V.ref) (ts.map Value.ref)
  | [] => .nil
  | t :: r => .cons rfl (vals_refs r)
theorem pe_listZip {X : Cx} {e e2 : Expr} {ta : TA} {p p2 pos pos2 : Pos} (hc : X.calm = true) (hgl : Gl X "list") (hml : X.mg "list" = none) (hgz : Gl X "zip") (hmz : X.mg "zip" = none) (ha : PA X [e, e2] ta)
    (hs : starEach [e, e2] X.env = (false, eval e X.env) :: starEach [e2] X.env := by rfl) (hpl : (backTo pos2 (starEach [e2] X.env)).any (·.1) = false := by rfl) :
    PE X (.Call (.Name "list" p) [.Call (.Name "zip" p2) [e, e2] [] pos2] [] pos) (tLZ X.K ta) := by
  refine ⟨fun pins s σ H Q I h => ?_⟩
  refine wpAny_Call_Name_kw (ld_blt I hgl hml (by decide +kernel : bootBuiltins "list" = some (.type "list")) ?_)
  refine PyProof.Rows.callWith_type1 ?_ rfl rfl
  show wpAny _ _ (spliced ((false, eval (.Call (.Name "zip" p2) [e, e2] [] pos2) X.env) :: backTo pos (starEach [] X.env))) _ _ s
  refine Calls.spliced_cons ?_
  refine wpAny_Call_Name_kw (ld_blt I hgz hmz PyProof.Rows.boot_zip (PyProof.Rows.callWith_type1 (thn (ha.run pos2 pins s σ H _ I h) fun us s1 ⟨vs, H1, I1, r1, q1⟩ => ?_) hs hpl))
  obtain ⟨a, b, xs, ys, ex, hqx, hqy, hlen, q⟩ := q1
  subst ex
  cases r1 with
  | cons r rr =>
    cases rr with
    | cons r' rr =>
      cases rr
      cases r
      cases r'
      obtain ⟨its, rv, p1, _⟩ := I1.list hqx
      obtain ⟨its2, rv2, p22, hz2⟩ := I1.list hqy
      have l1 := rv.length
      have l2 := rv2.length
      refine call_zip_2 p1.isList p22.isList fun h' hz hTI hTO h1 h2 hsz hk => ?_
      refine Calls.spliced_nil ?_
      have D := PySem.W.ktu_apart s1.heap.objs.size a b p1.lt p22.lt
      have I2 : Inv X pins σ H1 { s1 with heap := h' } := I1.kept (t' := s1.toks) hk
      obtain ⟨its', rv', p1', _⟩ := I2.list hqx
      obtain ⟨its2', rv2', p22', _⟩ := I2.list hqy
      have ee : its'.toArray = its.toArray := by
        obtain ⟨o, n, e, _, _, d⟩ := p1
        obtain ⟨o', n', e', _, _, d'⟩ := p1'
        rw [hk _ _ e] at e'
        cases e'
        rw [d] at d'
        injection d' with d1 _
        exact d1.symm
      have ee2 : its2'.toArray = its2.toArray := by
        obtain ⟨o, n, e, _, _, d⟩ := p22
        obtain ⟨o', n', e', _, _, d'⟩ := p22'
        rw [hk _ _ e] at e'
        cases e'
        rw [d] at d'
        injection d' with d1 _
        exact d1.symm
      refine zl_call (s := { s1 with heap := h' }) (n := min its.toArray.size its2.toArray.size) (I.ok.hd hc) D hz hTI ⟨_, _, hTO⟩ h1 h2 (by rw [← ee]; exact p1'.isList) (by rw [← ee2]; exact p22'.isList) rfl (by simp only [List.size_toArray]; omega) fun h2' tk acc c as hk2 hD hl hG hacc => ?_
      simp only [List.size_toArray] at hl
      have hsz' : h'.objs.size = s1.heap.objs.size + 5 := hsz
      have lo : s1.heap.objs.size ≤ h'.objs.size := by rw [hsz']; exact Nat.le_add_right _ _
      -- all of s1's heap is as it was
      have kp : ∀ b o, s1.heap.get? b = some o → h2'.get? b = some o := fun b o e => by
        have lt := Heap.lt_size e
        exact hk2 b o (Nat.ne_of_lt (Nat.lt_of_lt_of_le lt (Nat.le_add_right _ _))) (Nat.ne_of_lt (Nat.lt_of_lt_of_le lt (Nat.le_add_right _ _))) (Nat.ne_of_lt lt) (Nat.ne_of_lt (Nat.lt_of_lt_of_le lt (Nat.le_add_right _ _))) (hk b o e)
      have fr : ∀ b, s1.heap.objs.size ≤ b → H1 b = none := fun b hb => I1.hok.fresh hb
      have asl : ∀ t ∈ as, s1.heap.objs.size ≤ t ∧ t ≠ h'.objs.size := fun t ht => by
        have := hG.above t ht
        exact ⟨Nat.le_trans lo (Nat.le_of_lt this), Nat.ne_of_gt this⟩
      have nd : as.Nodup := hG.rise.imp fun h => Nat.ne_of_lt h
      have ndz : ((zip3 as xs ys).map Prod.fst).Nodup := (zip3_fst as xs ys).nodup nd
      have zmem : ∀ p ∈ zip3 as xs ys, p.1 ∈ as := fun p hp => (zip3_fst as xs ys).subset (List.mem_map.mpr ⟨p, hp, rfl⟩)
      let L := h'.objs.size
      let H2 : Hp := upd (layT H1 (zip3 as xs ys)) h'.objs.size (.lst (as.map V.ref))
      have old : ∀ b o, H1 b = some o → H2 b = some o := fun b o e => by
        have lt : b < s1.heap.objs.size := I1.hok.lt e
        show upd (layT H1 (zip3 as xs ys)) h'.objs.size _ b = _
        rw [upd_ne (Nat.ne_of_lt (Nat.lt_of_lt_of_le lt lo)), layT_off _ fun p hp z => ?_]
        · exact e
        · have := (asl _ (zmem p hp)).1
          rw [← z] at this
          exact absurd (Nat.lt_of_lt_of_le lt this) (Nat.lt_irrefl _)
      have onT : ∀ (i : Nat) t x y, as[i]? = some t → xs[i]? = some x → ys[i]? = some y → H2 t = some (.tup [x, y]) := fun i t x y e1 e2 e3 => by
        show upd (layT H1 (zip3 as xs ys)) h'.objs.size _ t = _
        rw [upd_ne (asl t (List.mem_of_getElem? e1)).2]
        exact layT_on _ ndz t x y (zip3_get as xs ys i t x y e1 e2 e3)
      have hok2 : HOk X.prog X.w H2 h2' := by
        intro b o e
        by_cases hb : b = h'.objs.size
        · subst hb
          have e' : o = .lst (as.map V.ref) := by
            have : H2 h'.objs.size = some (.lst (as.map V.ref)) := upd_same
            rw [this] at e
            exact (Option.some.inj e).symm
          subst e'
          refine ⟨?_, as.map Value.ref, c, vals_refs as, ?_⟩
          · rw [List.length_map]
            omega
          · rw [← hacc, Array.toArray_toList]
            exact hD
        · have e2 : layT H1 (zip3 as xs ys) b = some o := by
            have z : H2 b = layT H1 (zip3 as xs ys) b := upd_ne hb
            rw [← z]
            exact e
          rcases layT_some _ e2 with q1 | ⟨x, y, q1, rfl⟩
          · have ok := I1.hok b o q1
            refine ok.stay (fun c v _ q => kp c v q) (fun c q => old c _ q) fun c zs q => old c _ q
          · obtain ⟨i, i1, i2, i3⟩ := zip3_mem _ _ _ _ _ _ q1
            obtain ⟨u, u2, hu, hu2, e3⟩ := hG.pairs i b i1
            obtain ⟨v, hv, rv3⟩ := rv.get i2
            obtain ⟨v2, hv2, rv4⟩ := rv2.get i3
            have c1 : u = v := by
              simp only [List.getElem?_toArray] at hu
              rw [hv] at hu
              exact (Option.some.inj hu).symm
            have c2 : u2 = v2 := by
              simp only [List.getElem?_toArray] at hu2
              rw [hv2] at hu2
              exact (Option.some.inj hu2).symm
            subst c1
            subst c2
            exact ⟨by show 2 ≤ sizeLine; decide, [u, u2], .cons rv3 (.cons rv4 .nil), ⟨_, e3, rfl, _, rfl⟩⟩
      have un : Un X.fs [] H1 H2 s1.heap h2' := {
        keep := fun b o e _ _ _ => kp b o e
        slot := fun b o e _ _ _ => ⟨o.slots, kp b o e⟩
        free := fun b o e n _ => by
          have lt := Heap.lt_size e
          show upd (layT H1 (zip3 as xs ys)) h'.objs.size _ b = none
          rw [upd_ne (Nat.ne_of_lt (Nat.lt_of_lt_of_le lt lo)), layT_off _ fun p hp z => ?_]
          · exact n
          · have := (asl _ (zmem p hp)).1
            rw [← z] at this
            exact absurd (Nat.lt_of_lt_of_le lt this) (Nat.lt_irrefl _)
        there := fun b o e _ => ⟨o, kp b o e⟩
        tups := fun b zs e => old b _ e
        frzs := fun b o u e => old b _ e
        tbls := fun b ps e => ⟨#[], by rw [old b _ e]; simp⟩ }
      have I3 : Inv X pins σ H2 { s1 with heap := h2', toks := tk } := I1.un un hok2
      refine ⟨.ref h'.objs.size, H2, I3, rfl, q h'.objs.size as H2 old (fr _ lo) upd_same (by omega) fun i t x y e1 e2 e3 => ⟨onT i t x y e1 e2 e3, fr _ (asl t (List.mem_of_getElem? e1)).1⟩⟩

/-! ### max, min of a pair -/
section
variable {prog : Program} {w : World} {A : Around} {E : Value → Shared → Prop} {s : Shared}
theorem max_pair {T : Addr} {a b : Int} {t u : Tok} {Q : Value → Shared → Prop} (hh : A.handled = none) (hT : s.heap.IsTuple T #[.int a t, .int b u])
    (h : ∀ h' tk, (∀ c o, s.heap.get? c = some o → h'.get? c = some o) → Q (if b > a then .int b u else .int a t) { s with heap := h', toks := tk }) :
    wpAny (model prog w) A (call (.builtin "max") [.ref T]) Q E s := by
  have hT2 : s.heap.IsTuple T (intItems #[(a, t), (b, u)]) := by
    have : intItems #[(a, t), (b, u)] = #[.int a t, .int b u] := by simp [intItems]
    rw [this]
    exact hT
  obtain ⟨oT, eT, _⟩ := id hT
  have ne : T ≠ s.heap.objs.size := Nat.ne_of_lt (Heap.lt_size eT)
  refine call_max_walk (wpAny_pyIter_tuple hT2 ?_)
  refine ⟨_, [_, T], [_], _, _, _, _, rfl, Walks.tuple (A := A.in1) hh _ T ne (intItems #[(a, t), (b, u)]),
    ⟨⟨_, Heap.get?_push_size _ rfl, rfl, rfl⟩, hT2.push _⟩, fun c hc => ?_, by simp [intItems], CmpOf.ints_gt (numAt #[(a, t), (b, u)]) (fun _ _ => intItems_at), fun v h' tk hP hk => ?_⟩
  · show c < (s.heap.push _).objs.size
    rw [Heap.size_push]
    rcases List.mem_cons.mp hc with rfl | hc
    · exact Nat.lt_succ_self _
    · rcases List.mem_cons.mp hc with rfl | hc
      · exact Nat.lt_succ_of_lt (Heap.lt_size eT)
      · cases hc
  · have hold : ∀ c o, s.heap.get? c = some o → h'.get? c = some o := fun c o e => by
      refine hk c o (fun hm => ?_) (Heap.get?_push_of_some _ e)
      rcases List.mem_cons.mp hm with e1 | hm
      · have := Heap.lt_size e; rw [e1] at this; exact Nat.lt_irrefl _ this
      · cases hm
    have := h h' tk hold
    have hv : v = if b > a then Value.int b u else Value.int a t := by
      have hP' : (intItems #[(a, t), (b, u)])[argBest (fun i j => decide (numAt #[(a, t), (b, u)] i > numAt #[(a, t), (b, u)] j)) 1]? = some v := by
        have hsz2 : (intItems #[(a, t), (b, u)]).size - 1 = 1 := by simp [intItems]
        rw [← hsz2]; exact hP
      by_cases hba : b > a
      · have e : argBest (fun i j => decide (numAt #[(a, t), (b, u)] i > numAt #[(a, t), (b, u)] j)) 1 = 1 := by simp [argBest, numAt, hba]
        rw [e] at hP'
        simpa [intItems, hba] using hP'.symm
      · have e : argBest (fun i j => decide (numAt #[(a, t), (b, u)] i > numAt #[(a, t), (b, u)] j)) 1 = 0 := by simp [argBest, numAt, hba]
        rw [e] at hP'
        simpa [intItems, hba] using hP'.symm
    rw [hv]; exact this
theorem min_pair {T : Addr} {a b : Int} {t u : Tok} {Q : Value → Shared → Prop} (hh : A.handled = none) (hT : s.heap.IsTuple T #[.int a t, .int b u])
    (h : ∀ h' tk, (∀ c o, s.heap.get? c = some o → h'.get? c = some o) → Q (if b < a then .int b u else .int a t) { s with heap := h', toks := tk }) :
    wpAny (model prog w) A (call (.builtin "min") [.ref T]) Q E s := by
  have hT2 : s.heap.IsTuple T (intItems #[(a, t), (b, u)]) := by
    have : intItems #[(a, t), (b, u)] = #[.int a t, .int b u] := by simp [intItems]
    rw [this]
    exact hT
  obtain ⟨oT, eT, _⟩ := id hT
  have ne : T ≠ s.heap.objs.size := Nat.ne_of_lt (Heap.lt_size eT)
  refine call_min_walk (wpAny_pyIter_tuple hT2 ?_)
  refine ⟨_, [_, T], [_], _, _, _, _, rfl, Walks.tuple (A := A.in1) hh _ T ne (intItems #[(a, t), (b, u)]),
    ⟨⟨_, Heap.get?_push_size _ rfl, rfl, rfl⟩, hT2.push _⟩, fun c hc => ?_, by simp [intItems], CmpOf.ints_lt (numAt #[(a, t), (b, u)]) (fun _ _ => intItems_at), fun v h' tk hP hk => ?_⟩
  · show c < (s.heap.push _).objs.size
    rw [Heap.size_push]
    rcases List.mem_cons.mp hc with rfl | hc
    · exact Nat.lt_succ_self _
    · rcases List.mem_cons.mp hc with rfl | hc
      · exact Nat.lt_succ_of_lt (Heap.lt_size eT)
      · cases hc
  · have hold : ∀ c o, s.heap.get? c = some o → h'.get? c = some o := fun c o e => by
      refine hk c o (fun hm => ?_) (Heap.get?_push_of_some _ e)
      rcases List.mem_cons.mp hm with e1 | hm
      · have := Heap.lt_size e; rw [e1] at this; exact Nat.lt_irrefl _ this
      · cases hm
    have := h h' tk hold
    have hv : v = if b < a then Value.int b u else Value.int a t := by
      have hP' : (intItems #[(a, t), (b, u)])[argBest (fun i j => decide (numAt #[(a, t), (b, u)] i < numAt #[(a, t), (b, u)] j)) 1]? = some v := by
        have hsz2 : (intItems #[(a, t), (b, u)]).size - 1 = 1 := by simp [intItems]
        rw [← hsz2]; exact hP
      by_cases hba : b < a
      · have e : argBest (fun i j => decide (numAt #[(a, t), (b, u)] i < numAt #[(a, t), (b, u)] j)) 1 = 1 := by simp [argBest, numAt, hba]
        rw [e] at hP'
        simpa [intItems, hba] using hP'.symm
      · have e : argBest (fun i j => decide (numAt #[(a, t), (b, u)] i < numAt #[(a, t), (b, u)] j)) 1 = 0 := by simp [argBest, numAt, hba]
        rw [e] at hP'
        simpa [intItems, hba] using hP'.symm
    rw [hv]; exact this
end
section
variable {X : Cx}
def rMaxP (K : PySem.W.Frag) : List V → Hp → VK → Prop := fun vs H Q => ∃ (a : Addr) (i j : Int), vs = [.ref a] ∧ SqT K H a [.int i, .int j] ∧ Q (.int (if j > i then j else i)) H
def rMinP (K : PySem.W.Frag) : List V → Hp → VK → Prop := fun vs H Q => ∃ (a : Addr) (i j : Int), vs = [.ref a] ∧ SqT K H a [.int i, .int j] ∧ Q (.int (if j < i then j else i)) H
theorem cr_maxP (hc : X.calm = true) : CallR X (.builtin "max") (rMaxP X.K) := by
  intro pins s σ H vs us Q I r h
  obtain ⟨a, i, j, rfl, hs, q⟩ := h
  obtain ⟨its, rv, hl, _⟩ := I.tuple hs
  rw [Vals.ref1 r]
  obtain ⟨u1, u2, rfl, ⟨t, rfl⟩, ⟨t2, rfl⟩⟩ := vals2 rv
  obtain ⟨o, ho, hcl, n, hd⟩ := hl
  refine max_pair (I.ok.hd hc) ⟨o, ho, hcl, n, hd⟩ fun h' tk k => ⟨_, H, I.kept k, ?_, q⟩
  by_cases hj : j > i
  · rw [if_pos hj, if_pos hj]; exact ⟨_, rfl⟩
  · rw [if_neg hj, if_neg hj]; exact ⟨_, rfl⟩
theorem cr_minP (hc : X.calm = true) : CallR X (.builtin "min") (rMinP X.K) := by
  intro pins s σ H vs us Q I r h
  obtain ⟨a, i, j, rfl, hs, q⟩ := h
  obtain ⟨its, rv, hl, _⟩ := I.tuple hs
  rw [Vals.ref1 r]
  obtain ⟨u1, u2, rfl, ⟨t, rfl⟩, ⟨t2, rfl⟩⟩ := vals2 rv
  obtain ⟨o, ho, hcl, n, hd⟩ := hl
  refine min_pair (I.ok.hd hc) ⟨o, ho, hcl, n, hd⟩ fun h' tk k => ⟨_, H, I.kept k, ?_, q⟩
  by_cases hj : j < i
  · rw [if_pos hj, if_pos hj]; exact ⟨_, rfl⟩
  · rw [if_neg hj, if_neg hj]; exact ⟨_, rfl⟩
/-- the same, inside a comprehension -/
theorem cr_maxK {K : PySem.W.Frag} (hK : X.K = K) (hc : X.calm = true) : CallR X (.builtin "max") (rMaxP K) := by
  subst hK
  exact cr_maxP hc
theorem cr_minK {K : PySem.W.Frag} (hK : X.K = K) (hc : X.calm = true) : CallR X (.builtin "min") (rMinP K) := by
  subst hK
  exact cr_minP hc
end
end Rk
namespace Rk
open PySem PySem.Spec PyProof.Rows L2

/-! ### what repr shows: small data -/
structure Sh (d : PyData) (n k : Nat) : Prop where
  s : d.showable = true
  h : d.hasDict = false
  p : d.depth ≤ k
  l : d.shown.length ≤ n
theorem Sh.non : Sh .none 4 0 := ⟨rfl, rfl, by simp [PyData.depth], by decide +kernel⟩
theorem Sh.bl (b : Bool) : Sh (.bool b) 5 0 := ⟨rfl, rfl, by simp [PyData.depth], by cases b <;> decide +kernel⟩
theorem Sh.int {i : Int} (h : i.natAbs < 2 ^ 600) : Sh (.int i) 700 0 := by
  have q := PySem.Flt.log2_lt_of (by decide : 0 < 600) h
  refine ⟨decide_eq_true (by omega), rfl, by simp [PyData.depth], ?_⟩
  have e := int_text_length_le (k := 600) (by decide) q
  show (Str.ofString (toString i)).length ≤ 700
  rw [PySem.ofString_length]
  omega
theorem Sh.mono {d : PyData} {n k n' k' : Nat} (x : Sh d n k) (h : n ≤ n') (h' : k ≤ k') : Sh d n' k' := ⟨x.s, x.h, Nat.le_trans x.p h', Nat.le_trans x.l h⟩
theorem sh_all {n k : Nat} : ∀ ds : List PyData, (∀ d ∈ ds, Sh d n k) → PyData.showableAll ds = true ∧ PyData.hasDictAll ds = false ∧ PyData.depthAll ds ≤ k ∧ ((PyData.shownAll ds).map (·.length)).sum ≤ ds.length * n ∧ (PyData.shownAll ds).length = ds.length
  | [], _ => ⟨rfl, rfl, by simp [PyData.depthAll], by simp [PyData.shownAll], rfl⟩
  | d :: r, h => by
    obtain ⟨a1, a2, a3, a4, a5⟩ := sh_all r fun x hx => h x (List.mem_cons_of_mem _ hx)
    have x := h d List.mem_cons_self
    have x3 := x.p
    have x4 := x.l
    refine ⟨?_, ?_, ?_, ?_, ?_⟩
    · show (PyData.showable d && PyData.showableAll r) = true
      rw [x.s, a1]
      rfl
    · show (PyData.hasDict d || PyData.hasDictAll r) = false
      rw [x.h, a2]
      rfl
    · show max (PyData.depth d) (PyData.depthAll r) ≤ k
      omega
    · show (PyData.shown d).length + ((PyData.shownAll r).map (·.length)).sum ≤ (r.length + 1) * n
      rw [Nat.succ_mul]
      omega
    · show (PyData.shownAll r).length + 1 = r.length + 1
      omega
theorem Sh.list {n k : Nat} {ds : List PyData} (h : ∀ d ∈ ds, Sh d n k) : Sh (.list ds) (ds.length * n + 2 * ds.length + 3) (k + 1) := by
  obtain ⟨a1, a2, a3, a4, a5⟩ := sh_all ds h
  refine ⟨a1, a2, ?_, ?_⟩
  · show PyData.depthAll ds + 1 ≤ k + 1
    omega
  · have e := listText_len_le (PyData.shownAll ds)
    show (listText (PyData.shownAll ds)).length ≤ _
    omega
theorem Sh.tup {n k : Nat} {ds : List PyData} (h : ∀ d ∈ ds, Sh d n k) : Sh (.tuple ds) (ds.length * n + 2 * ds.length + 3) (k + 1) := by
  obtain ⟨a1, a2, a3, a4, a5⟩ := sh_all ds h
  refine ⟨a1, a2, ?_, ?_⟩
  · show PyData.depthAll ds + 1 ≤ k + 1
    omega
  · have e := tupleText_len_le (PyData.shownAll ds)
    show (tupleText (PyData.shownAll ds)).length ≤ _
    omega
theorem Sh.ok {d : PyData} {n k : Nat} (x : Sh d n k) (h : n ≤ 1000000) (h' : k ≤ 60) : d.showable = true ∧ d.hasDict = false ∧ d.depth ≤ 60 ∧ d.shown.length ≤ sizeLine := by
  have l := x.l
  refine ⟨x.s, x.h, Nat.le_trans x.p h', ?_⟩
  rw [sizeLine_eq]
  omega
theorem sh_life {x : Option Int} (hx : ∀ i, x = some i → i.natAbs < 2 ^ 600) : Sh (dO x) 700 0 := by
  cases x with
  | none => exact Sh.non.mono (by decide) (Nat.le_refl _)
  | some i => exact Sh.int (hx i rfl)
theorem sh_lives {ls : List (Option Int)} (h : ∀ x ∈ ls, ∀ i, x = some i → i.natAbs < 2 ^ 600) (hl : ls.length ≤ 100) : Sh (dLs ls) 71000 1 := by
  have q : Sh (dLs ls) _ 1 := Sh.tup (n := 700) (k := 0) fun d hd => by
    obtain ⟨x, hx, rfl⟩ := List.mem_map.mp hd
    exact sh_life (h x hx)
  refine q.mono ?_ (Nat.le_refl _)
  rw [List.length_map]
  omega
theorem sh_two {d e : PyData} (x : Sh d 71000 1) (y : Sh e 71000 1) : Sh (.list [d, e]) 150000 2 := by
  have q : Sh (.list [d, e]) _ 2 := Sh.list (n := 71000) (k := 1) fun z hz => by
    rcases List.mem_cons.mp hz with rfl | hz
    · exact x
    · rw [List.mem_singleton.mp hz]
      exact y
  exact q.mono (show 2 * 71000 + 2 * 2 + 3 ≤ 150000 by decide) (Nat.le_refl _)
/-! ### lives: bounds, beyond, joined -/
def Bd (x : Option Int) : Prop := ∀ i, x = some i → 0 ≤ i ∧ i ≤ 2 * 10 ^ 18
set_option exponentiation.threshold 2000 in
theorem Bd.small {x : Option Int} (b : Bd x) : ∀ i, x = some i → i.natAbs < 2 ^ 600 := fun i e => by
  have := b i e
  exact Nat.lt_of_le_of_lt (show i.natAbs ≤ 2 * 10 ^ 18 by omega) (Nat.lt_of_lt_of_le (show 2 * 10 ^ 18 < 2 ^ 100 by decide) (Nat.pow_le_pow_right (by decide) (by decide)))
theorem lifeAt_mem {ls : List (Option Int)} (h0 : 0 < ls.length) (i : Nat) : lifeAt ls i ∈ ls := by
  by_cases h : i < ls.length
  · rw [lifeAt_lt (List.getElem?_eq_getElem h)]
    exact List.getElem_mem h
  · rw [lifeAt_const h0 i (by omega), lifeAt_lt (List.getElem?_eq_getElem (by omega))]
    exact List.getElem_mem _
theorem Good.bd {ls : List (Option Int)} (g : Good ls) : ∀ x ∈ ls, ∀ i, x = some i → 0 ≤ i ∧ i ≤ 10 ^ 18 := by
  obtain ⟨is, l, rfl, h1, h2⟩ := g.init
  intro x hx i e
  rcases List.mem_append.mp hx with h | h
  · obtain ⟨j, hj, rfl⟩ := List.mem_map.mp h
    cases e
    exact h1 i hj
  · rw [List.mem_singleton.mp h] at e
    exact h2 i e
theorem Good.at {ls : List (Option Int)} (g : Good ls) (i : Nat) : ∀ v, lifeAt ls i = some v → 0 ≤ v ∧ v ≤ 10 ^ 18 := g.bd _ (lifeAt_mem g.pos i)
theorem Bd.of {x : Option Int} (h : ∀ v, x = some v → 0 ≤ v ∧ v ≤ (10 : Int) ^ 18) : Bd x := fun i e => by have := h i e; omega
theorem bd_max {x y : Option Int} (a : Bd x) (b : Bd y) : Bd (maxO x y) := by
  unfold maxO
  split
  · exact b
  · exact a
theorem bd_min {x y : Option Int} (a : Bd x) (b : Bd y) : Bd (minO x y) := by
  unfold minO
  split
  · exact a
  · exact b
theorem bd_add {x : Option Int} {n : Int} (h : ∀ v, x = some v → 0 ≤ v ∧ v ≤ (10 : Int) ^ 18) (h0 : 0 ≤ n) (h1 : n ≤ 10 ^ 18) : Bd (addO n x) := fun i e => by
  cases x with
  | none => cases e
  | some v =>
    have := h v rfl
    cases e
    show 0 ≤ v + n ∧ v + n ≤ 2 * 10 ^ 18
    omega
/-- as lives are compared, and back -/
def bakO (n : Int) : Option Int := if n ≥ 10 ^ 30 then none else some n
theorem bak_wid {x : Option Int} (b : Bd x) : bakO (wid x) = x := by
  cases x with
  | none => exact if_pos (Int.le_refl _)
  | some i =>
    have := b i rfl
    exact if_neg (show ¬ i ≥ 10 ^ 30 by omega)
theorem wid_max {x y : Option Int} (a : Bd x) (b : Bd y) : (if wid y > wid x then wid y else wid x) = wid (maxO x y) := by
  cases x with
  | none =>
    cases y with
    | none => rfl
    | some j =>
      have := b j rfl
      show (if j > 10 ^ 30 then j else (10 : Int) ^ 30) = 10 ^ 30
      rw [if_neg (by omega)]
  | some i =>
    have := a i rfl
    cases y with
    | none =>
      show (if (10 : Int) ^ 30 > i then (10 : Int) ^ 30 else i) = 10 ^ 30
      rw [if_pos (by omega)]
    | some j =>
      by_cases h : i ≤ j
      · have e : maxO (some i) (some j) = some j := if_pos (decide_eq_true h)
        rw [e]
        show (if j > i then j else i) = j
        split <;> omega
      · have e : maxO (some i) (some j) = some i := if_neg (fun z => h (of_decide_eq_true z))
        rw [e]
        show (if j > i then j else i) = i
        rw [if_neg (by omega)]
theorem wid_min {x y : Option Int} (a : Bd x) (b : Bd y) : (if wid y < wid x then wid y else wid x) = wid (minO x y) := by
  cases x with
  | none =>
    cases y with
    | none => rfl
    | some j =>
      have := b j rfl
      show (if j < 10 ^ 30 then j else (10 : Int) ^ 30) = j
      rw [if_pos (by omega)]
  | some i =>
    have := a i rfl
    cases y with
    | none =>
      show (if (10 : Int) ^ 30 < i then (10 : Int) ^ 30 else i) = i
      rw [if_neg (by omega)]
    | some j =>
      by_cases h : i ≤ j
      · have e : minO (some i) (some j) = some i := if_pos (decide_eq_true h)
        rw [e]
        show (if j < i then j else i) = i
        rw [if_neg (by omega)]
      · have e : minO (some i) (some j) = some j := if_neg (fun z => h (of_decide_eq_true z))
        rw [e]
        show (if j < i then j else i) = j
        rw [if_pos (by omega)]
theorem wid_le {x y : Option Int} (a : Bd x) (b : Bd y) : decide (wid x ≤ wid y) = leO x y := by
  cases x with
  | none =>
    cases y with
    | none => exact decide_eq_true (Int.le_refl _)
    | some j =>
      have := b j rfl
      show decide ((10 : Int) ^ 30 ≤ j) = false
      exact decide_eq_false (by omega)
  | some i =>
    have := a i rfl
    cases y with
    | none =>
      show decide (i ≤ (10 : Int) ^ 30) = true
      exact decide_eq_true (by omega)
    | some j => rfl
theorem wid_add {x : Option Int} {n : Int} (b : Bd x) : (if wid x < 10 ^ 30 then wid x + n else wid x) = wid (addO n x) := by
  cases x with
  | none => exact if_neg (Int.lt_irrefl _)
  | some i =>
    have := b i rfl
    exact if_pos (show i < 10 ^ 30 by omega)
theorem lifeAt_far {ls : List (Option Int)} (h0 : 0 < ls.length) {N k : Nat} (h : ls.length ≤ N) (hk : N ≤ k) : lifeAt ls k = lifeAt ls (N - 1) := by
  rw [lifeAt_const h0 k (by omega)]
  by_cases z : N - 1 < ls.length
  · have e : N - 1 = ls.length - 1 := by omega
    rw [e]
  · rw [lifeAt_const h0 (N - 1) (by omega)]
theorem short_join {ls ms : List (Option Int)} (g : Option Int → Option Int → Option Int) (h0 : 0 < ls.length) (h1 : 0 < ms.length) (h2 : ls.length ≤ 65) (h3 : ms.length ≤ 65) :
    short (rows (fun i => g (lifeAt (short ls) i) (lifeAt (short ms) i)) (max (short ls).length (short ms).length)) = short (rows (fun i => g (lifeAt ls i) (lifeAt ms i)) 65) := by
  have p0 := short_len_pos h0
  have p1 := short_len_pos h1
  have q0 := short_len_le ls
  have q1 := short_len_le ms
  have e : (fun i => g (lifeAt (short ls) i) (lifeAt (short ms) i)) = fun i => g (lifeAt ls i) (lifeAt ms i) := by
    funext i
    rw [lifeAt_short h0, lifeAt_short h1]
  rw [← e]
  refine (short_any _ (by omega) (fun k hk => ?_) (by omega)).symm
  show g (lifeAt (short ls) k) (lifeAt (short ms) k) = g (lifeAt (short ls) _) (lifeAt (short ms) _)
  rw [lifeAt_far p0 (Nat.le_max_left _ _) hk, lifeAt_far p1 (Nat.le_max_right _ _) hk]
theorem rows_map (f : Option Int → Option Int) (g : Nat → Option Int) (n : Nat) : (rows g n).map f = rows (fun i => f (g i)) n := by
  unfold rows
  rw [List.map_map]
  rfl
theorem short_add {ls : List (Option Int)} (n : Int) (h0 : 0 < ls.length) (h2 : ls.length ≤ 65) : short ((short ls).map (addO n)) = short (rows (fun i => addO n (lifeAt ls i)) 65) := by
  have p0 := short_len_pos h0
  have q0 := short_len_le ls
  have e : (short ls).map (addO n) = rows (fun i => addO n (lifeAt ls i)) (short ls).length := by
    conv => lhs; rw [← rows_lifeAt (short ls)]
    rw [rows_map]
    congr 1
    funext i
    rw [lifeAt_short h0]
  rw [e]
  refine (short_any _ p0 (fun k hk => ?_) (by omega)).symm
  show addO n (lifeAt ls k) = addO n (lifeAt ls _)
  rw [← lifeAt_short h0 k, ← lifeAt_short h0 ((short ls).length - 1), lifeAt_far p0 (Nat.le_refl _) hk]
theorem short_short {ls : List (Option Int)} (h0 : 0 < ls.length) : short (short ls) = short ls := by
  have p0 := short_len_pos h0
  have q0 := short_len_le ls
  have e : short ls = rows (lifeAt ls) (short ls).length := by
    conv => lhs; rw [← rows_lifeAt (short ls)]
    congr 1
    funext i
    rw [lifeAt_short h0]
  have e2 : short (rows (lifeAt ls) ls.length) = short (rows (lifeAt ls) (short ls).length) := short_any _ p0 (fun k hk => by
    rw [← lifeAt_short h0 k, ← lifeAt_short h0 ((short ls).length - 1), lifeAt_far p0 (Nat.le_refl _) hk]) q0
  rw [rows_lifeAt ls] at e2
  rw [← e] at e2
  exact e2.symm
theorem addO_zero (ls : List (Option Int)) : ls.map (addO 0) = ls := by
  have e : addO 0 = id := by
    funext x
    cases x with
    | none => rfl
    | some i => exact congrArg some (Int.add_zero i)
  rw [e, List.map_id]
theorem maxO_comm {x y : Option Int} : maxO x y = maxO y x := by
  unfold maxO
  cases x with
  | none => cases y <;> rfl
  | some i =>
    cases y with
    | none => rfl
    | some j =>
      show (if decide (i ≤ j) = true then some j else some i) = if decide (j ≤ i) = true then some i else some j
      by_cases h : i ≤ j
      · rw [if_pos (decide_eq_true h)]
        by_cases h2 : j ≤ i
        · rw [if_pos (decide_eq_true h2)]
          congr 1
          omega
        · rw [if_neg (fun z => h2 (of_decide_eq_true z))]
      · rw [if_neg (fun z => h (of_decide_eq_true z)), if_pos (decide_eq_true (by omega))]
theorem minO_comm {x y : Option Int} : minO x y = minO y x := by
  unfold minO
  cases x with
  | none => cases y <;> rfl
  | some i =>
    cases y with
    | none => rfl
    | some j =>
      show (if decide (i ≤ j) = true then some i else some j) = if decide (j ≤ i) = true then some j else some i
      by_cases h : i ≤ j
      · rw [if_pos (decide_eq_true h)]
        by_cases h2 : j ≤ i
        · rw [if_pos (decide_eq_true h2)]
          congr 1
          omega
        · rw [if_neg (fun z => h2 (of_decide_eq_true z))]
      · rw [if_neg (fun z => h (of_decide_eq_true z)), if_pos (decide_eq_true (by omega))]
theorem all_far {p : Nat → Bool} {N M : Nat} (h : N ≤ M) (h0 : 0 < N) (far : ∀ k, N ≤ k → p k = p (N - 1)) : (List.range N).all p = (List.range M).all p := by
  rw [Bool.eq_iff_iff, List.all_eq_true, List.all_eq_true]
  constructor
  · intro q k hk
    by_cases z : k < N
    · exact q k (List.mem_range.mpr z)
    · rw [far k (by omega)]
      exact q _ (List.mem_range.mpr (by omega))
  · intro q k hk
    exact q k (List.mem_range.mpr (by have := List.mem_range.mp hk; omega))
theorem le_all {ls ms : List (Option Int)} (h0 : 0 < ls.length) (h1 : 0 < ms.length) (h2 : ls.length ≤ 65) (h3 : ms.length ≤ 65) :
    ((List.range (max (short ls).length (short ms).length)).all fun i => leO (lifeAt (short ls) i) (lifeAt (short ms) i)) = (List.range 65).all fun i => leO (lifeAt ls i) (lifeAt ms i) := by
  have p0 := short_len_pos h0
  have p1 := short_len_pos h1
  have q0 := short_len_le ls
  have q1 := short_len_le ms
  have e : (fun i => leO (lifeAt (short ls) i) (lifeAt (short ms) i)) = fun i => leO (lifeAt ls i) (lifeAt ms i) := by
    funext i
    rw [lifeAt_short h0, lifeAt_short h1]
  rw [← e]
  refine all_far (by omega) (by omega) fun k hk => ?_
  show leO (lifeAt (short ls) k) (lifeAt (short ms) k) = leO (lifeAt (short ls) _) (lifeAt (short ms) _)
  rw [lifeAt_far p0 (Nat.le_max_left _ _) hk, lifeAt_far p1 (Nat.le_max_right _ _) hk]
theorem short_sub {ls : List (Option Int)} {x : Option Int} (h : x ∈ short ls) : x ∈ ls := List.mem_of_mem_take h
theorem rows_mem {g : Nat → Option Int} {n : Nat} {x : Option Int} (h : x ∈ rows g n) : ∃ i, x = g i := by
  obtain ⟨i, _, rfl⟩ := List.mem_map.mp h
  exact ⟨i, rfl⟩
end Rk
namespace Rk
open PySem PySem.Spec PyProof.Rows L2

/-! ### tuples that the heap holds: their slices and sums -/
section
variable {X : Cx}
def rCatH : R2 := fun x y H Q => ∃ (a b : Addr) (xs ys : List V), x = .ref a ∧ y = .ref b ∧ H a = some (.tup xs) ∧ H b = some (.tup ys) ∧ xs.length + ys.length ≤ sizeLine ∧
  ∀ r H', Same H H' → H' r = some (.tup (xs ++ ys)) → Q (.ref r) H'
theorem op_catH : OpR X (binaryOp .Add) rCatH := by
  intro pins s σ H x y v u Q I rx ry h
  obtain ⟨a, b, xs, ys, ex, ey, ha, hb, hz, q⟩ := h
  refine op_catA pins s σ H x y v u Q I rx ry ⟨a, b, xs, ys, ex, ey, SqT.of ha, SqT.of hb, hz, fun z => ?_, fun _ z => ?_, fun _ _ p hp => ?_⟩
  · refine q b H (Same.refl _) ?_
    rw [z, List.nil_append]
    exact hb
  · refine q a H (Same.refl _) ?_
    rw [z, List.append_nil]
    exact ha
  · exact q p _ (same_upd hp) upd_same
def rSlH : V → Option Int → Option Int → Hp → VK → Prop := fun x lo hi H Q => ∃ (a : Addr) (xs : List V), x = .ref a ∧ H a = some (.tup xs) ∧
  ∀ r H', Same H H' → H' r = some (.tup (cutV xs lo hi)) → Q (.ref r) H'
theorem sl_tupH : SlR X rSlH := by
  intro pins s σ H x v vl vu lo hi sl Q I rx hs pl pu h
  obtain ⟨a, xs, e, hx, q⟩ := h
  refine sl_tupB pins s σ H x v vl vu lo hi sl Q I rx hs pl pu ⟨a, xs, e, SqT.of hx, fun r H' z => q r H' (rSlB_same z) ?_⟩
  rcases z with ⟨e1, e2, e3⟩ | ⟨n, e⟩
  · rw [e1, e2, e3]
    exact hx
  · rw [e]
    exact upd_same
end
/-! ### the least rank that is old enough -/
def idx : Nat → List (Option Int) → Int → Option Nat
  | _, [], _ => none
  | j, l :: r, a => if leO (some (a + 2 ^ j)) l = true then some j else idx (j + 1) r a
def gapO : Option Nat → Option Int
  | none => none
  | some j => some (2 ^ j - 1)
theorem due_idx (a : Int) : ∀ (ls : List (Option Int)) (j : Nat), due j ls a = gapO (idx j ls a)
  | [], _ => rfl
  | l :: r, j => by
    show (if leO (some (a + 2 ^ j)) l = true then some (2 ^ j - 1) else due (j + 1) r a) = gapO (if leO (some (a + 2 ^ j)) l = true then some j else idx (j + 1) r a)
    by_cases h : leO (some (a + 2 ^ j)) l = true
    · rw [if_pos h, if_pos h]
      rfl
    · rw [if_neg h, if_neg h]
      exact due_idx a r (j + 1)
theorem idx_lt {a : Int} : ∀ (ls : List (Option Int)) (j k : Nat), idx j ls a = some k → k < j + ls.length
  | [], _, _, h => by cases h
  | l :: r, j, k, h => by
    have h' : (if leO (some (a + 2 ^ j)) l = true then some j else idx (j + 1) r a) = some k := h
    by_cases hc : leO (some (a + 2 ^ j)) l = true
    · rw [if_pos hc] at h'
      have := Option.some.inj h'
      simp
      omega
    · rw [if_neg hc] at h'
      have := idx_lt r (j + 1) k h'
      simp
      omega
def lvN : Option Nat → V
  | none => .non
  | some j => .int (j : Nat)
theorem drop_cons {α : Type} {ls : List α} {i : Nat} {l : α} (h : ls[i]? = some l) : ls.drop i = l :: ls.drop (i + 1) := by
  have hi := (List.getElem?_eq_some_iff.mp h).1
  rw [List.drop_eq_getElem_cons hi, (List.getElem?_eq_some_iff.mp h).2]
theorem b01 (k : Bool) : -(2 ^ 64) < (if k = true then (1 : Int) else 0) ∧ (if k = true then (1 : Int) else 0) < 2 ^ 64 := by cases k <;> decide
theorem pow2_natAbs (j : Nat) : ((2 : Int) ^ j).natAbs = 2 ^ j := by rw [Int.natAbs_pow]; rfl
theorem pow2_pos (j : Nat) : (0 : Int) < 2 ^ j := Int.pow_pos (by decide)
theorem pow2_le {j k : Nat} (h : j ≤ k) : (2 : Int) ^ j ≤ 2 ^ k := by
  have h1 : (2 : Nat) ^ j ≤ 2 ^ k := Nat.pow_le_pow_right (by decide) h
  have h2 : ((2 ^ j : Nat) : Int) = (2 : Int) ^ j := by rw [Int.natCast_pow]; rfl
  have h3 : ((2 ^ k : Nat) : Int) = (2 : Int) ^ k := by rw [Int.natCast_pow]; rfl
  omega
/-- bounded from both sides -/
theorem small600 {x : Int} (h0 : -(10 ^ 40) ≤ x) (h1 : x ≤ 10 ^ 40) : x.natAbs < 2 ^ 600 := Nat.lt_of_le_of_lt (show x.natAbs ≤ 10 ^ 40 by omega) (by decide)
end Rk
namespace Rk
open PySem PySem.Spec PyProof.Rows L2

/-! ### items of tuples within a comprehension -/
theorem ix_tupK {X : Cx} {K : PySem.W.Frag} (hK : X.K = K) : IxR X (rIxT K) := by
  subst hK
  exact ix_tup
theorem atI_neg {xs : List V} {k : Nat} (h0 : 0 < k) (h : k ≤ xs.length) : atI xs (-(k : Int)) = xs[xs.length - k]? := by
  have e : ixN xs.length (-(k : Int)) = some (xs.length - k) := by
    unfold ixN
    rw [if_neg (by omega), if_pos (by omega)]
    congr 1
    omega
  unfold atI
  rw [e]
  rfl
/-! ### pairs that the heap holds -/
def PrAt (H : Hp) : List V → List (Option Int × Int) → Prop
  | [], [] => True
  | x :: xs, p :: ps => (∃ t, x = .ref t ∧ H t = some (.tup [lv p.1, .int p.2])) ∧ PrAt H xs ps
  | _, _ => False
theorem PrAt.length {H : Hp} : ∀ {xs : List V} {ps : List (Option Int × Int)}, PrAt H xs ps → xs.length = ps.length
  | [], [], _ => rfl
  | _ :: _, _ :: _, h => congrArg (· + 1) (PrAt.length h.2)
  | [], _ :: _, h => h.elim
  | _ :: _, [], h => h.elim
theorem PrAt.keep {H H' : Hp} (k : ∀ t ys, H t = some (.tup ys) → H' t = some (.tup ys)) : ∀ {xs : List V} {ps : List (Option Int × Int)}, PrAt H xs ps → PrAt H' xs ps
  | [], [], _ => trivial
  | _ :: _, _ :: _, ⟨⟨t, e, h⟩, r⟩ => ⟨⟨t, e, k _ _ h⟩, PrAt.keep k r⟩
  | [], _ :: _, h => h.elim
  | _ :: _, [], h => h.elim
theorem PrAt.same {H H' : Hp} (s : Same H H') {xs : List V} {ps : List (Option Int × Int)} (h : PrAt H xs ps) : PrAt H' xs ps := h.keep fun _ _ e => s _ _ e
theorem PrAt.snoc {H : Hp} {t : Addr} {p : Option Int × Int} (e : H t = some (.tup [lv p.1, .int p.2])) : ∀ {xs : List V} {ps : List (Option Int × Int)}, PrAt H xs ps → PrAt H (xs ++ [.ref t]) (ps ++ [p])
  | [], [], _ => ⟨⟨t, rfl, e⟩, trivial⟩
  | _ :: _, _ :: _, ⟨a, r⟩ => ⟨a, PrAt.snoc e r⟩
  | [], _ :: _, h => h.elim
  | _ :: _, [], h => h.elim
theorem PrAt.get {H : Hp} : ∀ {xs : List V} {ps : List (Option Int × Int)} {i : Nat} {x : V}, PrAt H xs ps → xs[i]? = some x → ∃ t p, x = .ref t ∧ ps[i]? = some p ∧ H t = some (.tup [lv p.1, .int p.2])
  | [], [], i, x, _, e => by simp at e
  | _ :: _, p :: _, 0, x, ⟨⟨t, a, h⟩, r⟩, e => by
    have : x = .ref t := by rw [← a]; simpa using e.symm
    exact ⟨t, p, this, rfl, h⟩
  | _ :: xs, _ :: ps, i + 1, x, ⟨_, r⟩, e => PrAt.get (xs := xs) (ps := ps) (i := i) r (by simpa using e)
  | [], _ :: _, _, _, h, _ => h.elim
  | _ :: _, [], _, _, h, _ => h.elim
def dP (p : Option Int × Int) : PyData := .tuple [dO p.1, .int p.2]
theorem PrAt.dp {K : PySem.W.Frag} {H : Hp} : ∀ {xs : List V} {ps : List (Option Int × Int)}, PrAt H xs ps → DpAll K H xs (ps.map dP)
  | [], [], _ => .nil
  | _ :: _, _ :: _, ⟨⟨_, e, h⟩, r⟩ => by
    subst e
    exact .cons (.tup (SqT.of h) (.cons (dp_lv _) (.cons (.int _) .nil))) (PrAt.dp r)
  | [], _ :: _, h => h.elim
  | _ :: _, [], h => h.elim
theorem sh_pair {p : Option Int × Int} (h1 : ∀ i, p.1 = some i → i.natAbs < 2 ^ 600) (h2 : p.2.natAbs < 2 ^ 600) : Sh (dP p) 2000 1 := by
  have z : Sh (dP p) _ 1 := Sh.tup (n := 700) (k := 0) fun d hd => by
    rcases List.mem_cons.mp hd with rfl | hd
    · exact sh_life h1
    · rw [List.mem_singleton.mp hd]
      exact Sh.int h2
  exact z.mono (by show 2 * 700 + 2 * 2 + 3 ≤ 2000; decide) (Nat.le_refl _)
theorem sh_pairs {ps : List (Option Int × Int)} (h : ∀ p ∈ ps, (∀ i, p.1 = some i → i.natAbs < 2 ^ 600) ∧ p.2.natAbs < 2 ^ 600) (hl : ps.length ≤ 100) : Sh (.tuple (ps.map dP)) 300000 2 := by
  have z : Sh (.tuple (ps.map dP)) _ 2 := Sh.tup (n := 2000) (k := 1) fun d hd => by
    obtain ⟨p, hp, rfl⟩ := List.mem_map.mp hd
    exact sh_pair (h p hp).1 (h p hp).2
  refine z.mono ?_ (Nat.le_refl _)
  rw [List.length_map]
  omega

/-! ### what is promised -/
def offO (i : Nat) (l : Option Int) : Option Int := l.map (· - 2 ^ i)
def prom : Nat → Option Int → List (Option Int) → List (Option Int × Int)
  | _, _, [] => []
  | i, reach, l :: r => if leO (offO i l) reach = true then prom (i + 1) reach r else (offO i l, 2 ^ i - 1) :: prom (i + 1) (offO i l) r
theorem prom_len : ∀ (ls : List (Option Int)) (i : Nat) (reach : Option Int), (prom i reach ls).length ≤ ls.length
  | [], _, _ => Nat.le_refl _
  | l :: r, i, reach => by
    show (if leO (offO i l) reach = true then prom (i + 1) reach r else (offO i l, 2 ^ i - 1) :: prom (i + 1) (offO i l) r).length ≤ r.length + 1
    by_cases h : leO (offO i l) reach = true
    · rw [if_pos h]
      exact Nat.le_succ_of_le (prom_len r _ _)
    · rw [if_neg h]
      exact Nat.succ_le_succ (prom_len r _ _)
theorem prom_none (ls : List (Option Int)) (i : Nat) : prom i none ls = [] := by
  induction ls generalizing i with
  | nil => rfl
  | cons l r ih =>
    show (if leO (offO i l) none = true then prom (i + 1) none r else _) = []
    rw [if_pos (by cases h : offO i l <;> rfl)]
    exact ih _
/-- what a step of the promise says of the lives from j on: no life ahead reaches it, its own does -/
theorem prom_due : ∀ (ls : List (Option Int)) (j : Nat) (reach : Option Int) (a g : Int), reach ≠ none → (some a, g) ∈ prom j reach ls → due j ls a = some g ∧ leO (some a) reach = false ∧ (due j ls (a + 1) ≠ some g) ∧ 2 ^ j - 1 ≤ g
  | [], _, _, _, _, _, h => nomatch h
  | l :: r, j, reach, a, g, hr, h => by
    have h' : (some a, g) ∈ (if leO (offO j l) reach = true then prom (j + 1) reach r else (offO j l, 2 ^ j - 1) :: prom (j + 1) (offO j l) r) := h
    have ea : ∀ b : Int, due j (l :: r) b = if leO (some (b + 2 ^ j)) l = true then some (2 ^ j - 1) else due (j + 1) r b := fun _ => rfl
    have p2 : (2 : Int) ^ (j + 1) = 2 ^ j * 2 := Int.pow_succ _ _
    have p0 := pow2_pos j
    have off : ∀ b : Int, leO (some (b + 2 ^ j)) l = leO (some b) (offO j l) := by
      intro b
      cases l with
      | none => rfl
      | some x =>
        show decide (b + 2 ^ j ≤ x) = decide (b ≤ x - 2 ^ j)
        rw [decide_eq_decide]
        omega
    have far : ∀ q : Option Int, q ≠ none → leO (some a) q = false → leO (offO j l) q = true ∨ q = offO j l → leO (some a) (offO j l) = false := by
      intro q hq h1 h2
      rcases h2 with h2 | h2
      · cases hl : offO j l with
        | none =>
          rw [hl] at h2
          cases q with
          | none => exact absurd rfl hq
          | some q => cases h2
        | some x =>
          cases q with
          | none => exact absurd rfl hq
          | some q =>
            rw [hl] at h2
            have t1 : x ≤ q := of_decide_eq_true h2
            have t2 : ¬ a ≤ q := of_decide_eq_false h1
            exact decide_eq_false (by omega)
      · rw [← h2]
        exact h1
    have step : due (j + 1) r a = some g ∧ due (j + 1) r (a + 1) ≠ some g ∧ 2 ^ (j + 1) - 1 ≤ g → leO (some a) (offO j l) = false → due j (l :: r) a = some g ∧ (due j (l :: r) (a + 1) ≠ some g) ∧ 2 ^ j - 1 ≤ g := by
      rintro ⟨i1, i3, i4⟩ h5
      have h6 : leO (some (a + 1)) (offO j l) = false := by
        cases hl : offO j l with
        | none => rw [hl] at h5; cases h5
        | some x =>
          rw [hl] at h5
          have t2 : ¬ a ≤ x := of_decide_eq_false h5
          exact decide_eq_false (by omega)
      rw [ea, ea, off, off, h5, h6, if_neg (by decide), if_neg (by decide)]
      exact ⟨i1, i3, by omega⟩
    by_cases hc : leO (offO j l) reach = true
    · rw [if_pos hc] at h'
      obtain ⟨i1, i2, i3, i4⟩ := prom_due r (j + 1) reach a g hr h'
      obtain ⟨s1, s2, s3⟩ := step ⟨i1, i3, i4⟩ (far reach hr i2 (.inl hc))
      exact ⟨s1, i2, s2, s3⟩
    · rw [if_neg hc] at h'
      have wide : ∀ b : Int, (leO (some b) (offO j l) = false → leO (some b) reach = false) := by
        intro b hb
        cases reach with
        | none => exact absurd rfl hr
        | some q =>
          cases hl : offO j l with
          | none => rw [hl] at hb; cases hb
          | some x =>
            rw [hl] at hb hc
            have t1 : ¬ x ≤ q := fun z => hc (decide_eq_true z)
            have t2 : ¬ b ≤ x := of_decide_eq_false hb
            exact decide_eq_false (by omega)
      rcases List.mem_cons.mp h' with e | h''
      · have e1 : some a = offO j l := congrArg Prod.fst e
        have e2 : g = 2 ^ j - 1 := congrArg Prod.snd e
        have k1 : leO (some a) (offO j l) = true := by rw [← e1]; exact decide_eq_true (Int.le_refl _)
        have k2 : leO (some (a + 1)) (offO j l) = false := by rw [← e1]; exact decide_eq_false (by omega)
        refine ⟨?_, ?_, ?_, by omega⟩
        · rw [ea, off, if_pos k1, e2]
        · cases reach with
          | none => exact absurd rfl hr
          | some q =>
            rw [← e1] at hc
            have t1 : ¬ a ≤ q := fun z => hc (decide_eq_true z)
            exact decide_eq_false t1
        · rw [ea, off, k2, if_neg (by decide)]
          intro z
          have big := due_ge r (j + 1) (a + 1) g z
          omega
      · cases hl : offO j l with
        | none =>
          rw [hl, prom_none] at h''
          exact nomatch h''
        | some x =>
          obtain ⟨i1, i2, i3, i4⟩ := prom_due r (j + 1) (offO j l) a g (by rw [hl]; intro z; cases z) h''
          obtain ⟨s1, s2, s3⟩ := step ⟨i1, i3, i4⟩ i2
          exact ⟨s1, wide a i2, s2, s3⟩
where
  due_ge : ∀ (ls : List (Option Int)) (j : Nat) (b g : Int), due j ls b = some g → 2 ^ j - 1 ≤ g
    | [], _, _, _, h => by cases h
    | l :: r, j, b, g, h => by
      have h' : (if leO (some (b + 2 ^ j)) l = true then some (2 ^ j - 1) else due (j + 1) r b) = some g := h
      by_cases hc : leO (some (b + 2 ^ j)) l = true
      · rw [if_pos hc] at h'
        have := Option.some.inj h'
        omega
      · rw [if_neg hc] at h'
        have i := due_ge r (j + 1) b g h'
        have p2 : (2 : Int) ^ (j + 1) = 2 ^ j * 2 := Int.pow_succ _ _
        have p0 := pow2_pos j
        omega
/-- bounds of what is promised -/
theorem prom_bound {B : Int} : ∀ (ls : List (Option Int)) (j : Nat) (reach : Option Int), j + ls.length ≤ 100 → (∀ x ∈ ls, ∀ i, x = some i → -B ≤ i ∧ i ≤ B) → ∀ p ∈ prom j reach ls, (∀ i, p.1 = some i → -B - 2 ^ 100 ≤ i ∧ i ≤ B) ∧ 0 ≤ p.2 ∧ p.2 ≤ 2 ^ 100
  | [], _, _, _, _, p, hp => nomatch hp
  | l :: r, j, reach, hj, hb, p, hp => by
    have h' : p ∈ (if leO (offO j l) reach = true then prom (j + 1) reach r else (offO j l, 2 ^ j - 1) :: prom (j + 1) (offO j l) r) := hp
    have hj' : j + 1 + r.length ≤ 100 := by simp at hj; omega
    have hb' : ∀ x ∈ r, ∀ i, x = some i → -B ≤ i ∧ i ≤ B := fun x hx => hb x (List.mem_cons_of_mem _ hx)
    have p0 := pow2_pos j
    have p1 : (2 : Int) ^ j ≤ 2 ^ 100 := pow2_le (by omega)
    by_cases hc : leO (offO j l) reach = true
    · rw [if_pos hc] at h'
      exact prom_bound r (j + 1) reach hj' hb' p h'
    · rw [if_neg hc] at h'
      rcases List.mem_cons.mp h' with e | h''
      · subst e
        refine ⟨fun i hi => ?_, ?_, ?_⟩
        · cases l with
          | none => cases hi
          | some x =>
            have e : x - 2 ^ j = i := Option.some.inj hi
            have := hb (some x) List.mem_cons_self x rfl
            omega
        · show (0 : Int) ≤ 2 ^ j - 1
          omega
        · show (2 : Int) ^ j - 1 ≤ 2 ^ 100
          omega
      · exact prom_bound r (j + 1) _ hj' hb' p h''
/-! ### shortest lives are lives -/
theorem good_take {ls : List (Option Int)} (g : Good ls) {n : Nat} (h0 : 0 < n) (h1 : n ≤ ls.length) : Good (ls.take n) := by
  refine ⟨by rw [List.length_take]; omega, by rw [List.length_take]; have := g.most; omega, ?_, ?_⟩
  · obtain ⟨is, l, e, hb, hl⟩ := g.init
    by_cases hn : n = ls.length
    · rw [hn, List.take_length]
      exact ⟨is, l, e, hb, hl⟩
    · have hlen : ls.length = is.length + 1 := by rw [e]; simp
      have hn2 : n ≤ is.length := by omega
      have e2 : ls.take n = (is.take n).map some := by rw [e, List.take_append_of_le_length (by rw [List.length_map]; exact hn2), List.map_take]
      obtain ⟨ini, z, ez⟩ : ∃ ini z, is.take n = ini ++ [z] := ⟨(is.take n).dropLast, (is.take n).getLast (fun z => absurd (congrArg List.length z) (by rw [List.length_take]; show ¬ min n is.length = 0; omega)), (List.dropLast_concat_getLast _).symm⟩
      have sub : ∀ y ∈ ini ++ [z], y ∈ is := fun y hy => List.mem_of_mem_take (by rw [← ez] at hy; exact hy)
      refine ⟨ini, some z, by rw [e2, ez, List.map_append]; rfl, fun i hi => hb i (sub i (List.mem_append_left _ hi)), fun i hi => ?_⟩
      have e3 : z = i := Option.some.inj hi
      rw [← e3]
      exact hb z (sub z (List.mem_append_right _ (List.mem_singleton_self _)))
  · intro i x y hx hy
    have li := (List.getElem?_eq_some_iff.mp hy).1
    rw [List.length_take] at li
    rw [List.getElem?_take_of_lt (by omega)] at hx hy
    exact g.asc i x y hx hy
theorem good_short {ls : List (Option Int)} (g : Good ls) : Good (short ls) := good_take g (cutN_pos _ _ g.pos) (cutN_le _ _)
theorem good_none_last {ls : List (Option Int)} (g : Good ls) {i : Nat} (h : ls[i]? = some none) : i + 1 = ls.length := by
  obtain ⟨is, l, e, hb, hl⟩ := g.init
  have hi := (List.getElem?_eq_some_iff.mp h).1
  have hlen : ls.length = is.length + 1 := by rw [e]; simp
  by_cases z : i < is.length
  · rw [e, List.getElem?_append_left (by rw [List.length_map]; exact z), List.getElem?_map, List.getElem?_eq_getElem z] at h
    cases h
  · omega
end Rk
namespace Rk
open PySem PySem.Spec PyProof.Rows L2

/-! ### sums over the ranks -/
def psum (g : Nat → Int) (z : Nat) : Nat → Int
  | 0 => 0
  | i + 1 => psum g z i + g i * 2 ^ (z - 1 - i)
/-- how many points 2 ** z ticks have, k the last rank -/
def pall (g : Nat → Int) (z k : Nat) : Int := g k * 2 ^ (z - k) + psum g z k
theorem psum_congr {g h : Nat → Int} {z : Nat} : ∀ i, (∀ j, j < i → g j = h j) → psum g z i = psum h z i
  | 0, _ => rfl
  | i + 1, e => by
    show psum g z i + g i * 2 ^ (z - 1 - i) = psum h z i + h i * 2 ^ (z - 1 - i)
    rw [psum_congr i fun j hj => e j (by omega), e i (by omega)]
theorem pall_congr {g h : Nat → Int} {z k : Nat} (e : ∀ j, j ≤ k → g j = h j) : pall g z k = pall h z k := by
  unfold pall
  rw [psum_congr k fun j hj => e j (by omega), e k (Nat.le_refl _)]
theorem psum_succ {g : Nat → Int} {z : Nat} : ∀ i, i ≤ z → psum g (z + 1) i = 2 * psum g z i
  | 0, _ => rfl
  | i + 1, h => by
    show psum g (z + 1) i + g i * 2 ^ (z + 1 - 1 - i) = 2 * (psum g z i + g i * 2 ^ (z - 1 - i))
    have e : z + 1 - 1 - i = (z - 1 - i) + 1 := by omega
    rw [psum_succ i (by omega), e, Int.pow_succ, Int.mul_add]
    congr 1
    rw [← Int.mul_assoc, Int.mul_comm 2]
theorem pall_wide {g : Nat → Int} {z k : Nat} (h : k ≤ z) : pall g (z + 1) k = 2 * pall g z k := by
  unfold pall
  have e : z + 1 - k = (z - k) + 1 := by omega
  rw [psum_succ k h, e, Int.pow_succ, Int.mul_add]
  congr 1
  rw [← Int.mul_assoc, Int.mul_comm 2]
/-- a last life that repeats the one ahead doubles it -/
theorem pall_same {g : Nat → Int} {k : Nat} (h : g (k + 1) = g k) : pall g (k + 1) (k + 1) = 2 * pall g k k := by
  have h2 := pall_wide (g := g) (Nat.le_refl k)
  rw [← h2]
  unfold pall
  show g (k + 1) * 2 ^ (k + 1 - (k + 1)) + (psum g (k + 1) k + g k * 2 ^ (k + 1 - 1 - k)) = g k * 2 ^ (k + 1 - k) + psum g (k + 1) k
  have e1 : k + 1 - (k + 1) = 0 := by omega
  have e2 : k + 1 - 1 - k = 0 := by omega
  have e3 : k + 1 - k = 1 := by omega
  rw [h, e1, e2, e3]
  have e4 : g k * 2 ^ 1 = g k * 2 ^ 0 + g k * 2 ^ 0 := by
    show g k * 2 = g k * 1 + g k * 1
    omega
  rw [e4]
  omega
def getI (is : List Int) (i : Nat) : Int := (is[i]?).getD 0
theorem getI_at {is : List Int} {i : Nat} {x : Int} (h : is[i]? = some x) : getI is i = x := by
  unfold getI
  rw [h]
  rfl
theorem getI_take {is : List Int} {i n : Nat} (h : i < n) : getI (is.take n) i = getI is i := by
  unfold getI
  rw [List.getElem?_take_of_lt h]
/-- cutting what repeats at the end -/
theorem pall_cut (is : List Int) : ∀ n, 0 < n → n ≤ is.length → pall (getI is) (n - 1) (n - 1) = pall (getI is) (cutN (is.map some) n - 1) (cutN (is.map some) n - 1) * 2 ^ (n - cutN (is.map some) n)
  | 0, h, _ => absurd h (by decide)
  | 1, _, _ => by
    show _ = pall (getI is) (1 - 1) (1 - 1) * 2 ^ (1 - 1)
    show _ = _ * 1
    rw [Int.mul_one]
  | n + 2, _, hl => by
    by_cases h : (is.map some)[n + 1]? = (is.map some)[n]?
    · rw [cutN_eq h]
      have ih := pall_cut is (n + 1) (by omega) (by omega)
      have hc := cutN_le (is.map some) (n + 1)
      have l1 : n + 1 < is.length := by omega
      have l0 : n < is.length := by omega
      have hg : getI is (n + 1) = getI is n := by
        rw [List.getElem?_map, List.getElem?_map, List.getElem?_eq_getElem l1, List.getElem?_eq_getElem l0] at h
        have e : is[n + 1] = is[n] := by simpa using h
        rw [getI_at (List.getElem?_eq_getElem l1), getI_at (List.getElem?_eq_getElem l0), e]
      have e1 : n + 2 - 1 = n + 1 := by omega
      have e2 : n + 1 - 1 = n := by omega
      have e3 : n + 2 - cutN (is.map some) (n + 1) = (n + 1 - cutN (is.map some) (n + 1)) + 1 := by omega
      rw [e2] at ih
      rw [e1, pall_same hg, ih, e3, Int.pow_succ, ← Int.mul_assoc, Int.mul_comm 2, Int.mul_assoc, Int.mul_comm 2]
    · rw [cutN_ne h, Nat.sub_self]
      show _ = _ * 1
      rw [Int.mul_one]
theorem psum_nonneg {g : Nat → Int} (h : ∀ i, 0 ≤ g i) (z : Nat) : ∀ i, 0 ≤ psum g z i
  | 0 => Int.le_refl _
  | i + 1 => Int.add_nonneg (psum_nonneg h z i) (Int.mul_nonneg (h i) (Int.le_of_lt (pow2_pos _)))
theorem pall_nonneg {g : Nat → Int} (h : ∀ i, 0 ≤ g i) (z k : Nat) : 0 ≤ pall g z k := Int.add_nonneg (Int.mul_nonneg (h k) (Int.le_of_lt (pow2_pos _))) (psum_nonneg h z k)
theorem psum_le {g : Nat → Int} {B : Int} (hB : 0 ≤ B) (h : ∀ i, g i ≤ B) (z : Nat) : ∀ i, psum g z i ≤ (i : Nat) * (B * 2 ^ z)
  | 0 => by show (0 : Int) ≤ ((0 : Nat) : Int) * _; simp
  | i + 1 => by
    have ih := psum_le hB h z i
    have e : g i * 2 ^ (z - 1 - i) ≤ B * 2 ^ z := by
      have a1 : g i * 2 ^ (z - 1 - i) ≤ B * 2 ^ (z - 1 - i) := Int.mul_le_mul_of_nonneg_right (h i) (Int.le_of_lt (pow2_pos _))
      have a2 : B * 2 ^ (z - 1 - i) ≤ B * 2 ^ z := Int.mul_le_mul_of_nonneg_left (pow2_le (by omega)) hB
      omega
    show psum g z i + g i * 2 ^ (z - 1 - i) ≤ ((i + 1 : Nat) : Int) * (B * 2 ^ z)
    have e2 : ((i + 1 : Nat) : Int) * (B * 2 ^ z) = (i : Nat) * (B * 2 ^ z) + B * 2 ^ z := by
      rw [Int.natCast_add, Int.add_mul]
      simp
    omega
theorem pall_le {g : Nat → Int} {B : Int} (hB : 0 ≤ B) (h : ∀ i, g i ≤ B) (z k : Nat) : pall g z k ≤ ((k : Int) + 1) * (B * 2 ^ z) := by
  have e := psum_le hB h z k
  have a1 : g k * 2 ^ (z - k) ≤ B * 2 ^ (z - k) := Int.mul_le_mul_of_nonneg_right (h k) (Int.le_of_lt (pow2_pos _))
  have a2 : B * 2 ^ (z - k) ≤ B * 2 ^ z := Int.mul_le_mul_of_nonneg_left (pow2_le (by omega)) hB
  unfold pall
  rw [Int.add_mul, Int.one_mul]
  omega
/-! ### lowest terms -/
theorem dvd_pow2 : ∀ (k d : Nat), d ∣ 2 ^ k → ∃ m, m ≤ k ∧ d = 2 ^ m
  | 0, d, h => ⟨0, Nat.le_refl _, Nat.eq_one_of_dvd_one h⟩
  | k + 1, d, h => by
    by_cases hd : d % 2 = 0
    · obtain ⟨e, rfl⟩ : ∃ e, d = 2 * e := ⟨d / 2, by omega⟩
      rw [Nat.pow_succ, Nat.mul_comm (2 ^ k)] at h
      obtain ⟨m, hm, em⟩ := dvd_pow2 k e (Nat.dvd_of_mul_dvd_mul_left (by decide) h)
      exact ⟨m + 1, by omega, by rw [em, Nat.pow_succ, Nat.mul_comm]⟩
    · have c : Nat.Coprime d 2 := by
        have g2 : d.gcd 2 ∣ 2 := Nat.gcd_dvd_right _ _
        have gd : d.gcd 2 ∣ d := Nat.gcd_dvd_left _ _
        have le := Nat.le_of_dvd (by decide) g2
        have pos : 0 < d.gcd 2 := Nat.gcd_pos_of_pos_right _ (by decide)
        by_cases e : d.gcd 2 = 2
        · rw [e] at gd
          obtain ⟨q, hq⟩ := gd
          omega
        · show d.gcd 2 = 1
          omega
      exact ⟨0, Nat.zero_le _, (c.pow_right (k + 1)).eq_one_of_dvd h⟩
/-- A / G and 2 ^ k / G for G their greatest common divisor -/
theorem lowest (A k : Nat) : ∃ j a : Nat, j ≤ k ∧ 2 ^ k / A.gcd (2 ^ k) = 2 ^ j ∧ A / A.gcd (2 ^ k) = a ∧ a * 2 ^ k = A * 2 ^ j ∧ (j = 0 ∨ a % 2 = 1) := by
  have pk : 0 < 2 ^ k := Nat.pow_pos (by decide)
  have gp : 0 < A.gcd (2 ^ k) := Nat.gcd_pos_of_pos_right _ pk
  have gl : A.gcd (2 ^ k) ∣ A := Nat.gcd_dvd_left _ _
  have gr : A.gcd (2 ^ k) ∣ 2 ^ k := Nat.gcd_dvd_right _ _
  obtain ⟨m, hm, em⟩ := dvd_pow2 k _ gr
  have cop := Nat.coprime_div_gcd_div_gcd gp
  have e2 : 2 ^ k / A.gcd (2 ^ k) = 2 ^ (k - m) := by
    rw [em]
    exact Nat.pow_div hm (by decide)
  refine ⟨k - m, _, by omega, e2, rfl, ?_, ?_⟩
  · rw [← e2]
    have a1 := Nat.div_mul_cancel gl
    have a2 := Nat.div_mul_cancel gr
    generalize A.gcd (2 ^ k) = G at *
    calc A / G * 2 ^ k = A / G * (2 ^ k / G * G) := by rw [a2]
      _ = A / G * G * (2 ^ k / G) := by rw [Nat.mul_comm (2 ^ k / G) G, Nat.mul_assoc]
      _ = A * (2 ^ k / G) := by rw [a1]
  · by_cases h : k - m = 0
    · exact .inl h
    · refine .inr ?_
      rw [e2] at cop
      by_cases o : A / A.gcd (2 ^ k) % 2 = 1
      · exact o
      · exfalso
        have d1 : 2 ∣ A / A.gcd (2 ^ k) := Nat.dvd_of_mod_eq_zero (by omega)
        have d2 : 2 ∣ 2 ^ (k - m) := ⟨2 ^ (k - m - 1), by rw [← Nat.pow_succ']; congr 1; omega⟩
        have d3 := Nat.dvd_gcd d1 d2
        have d4 : (A / A.gcd (2 ^ k)).gcd (2 ^ (k - m)) = 1 := cop
        rw [d4] at d3
        have := Nat.le_of_dvd (by decide) d3
        omega
/-! ### the last life of the shortest lives -/
theorem short_last {ls : List (Option Int)} (h0 : 0 < ls.length) {l : Option Int} (h : ls.getLast? = some l) : (short ls).getLast? = some l := by
  have p := short_len_pos h0
  obtain ⟨y, hy⟩ : ∃ y, (short ls).getLast? = some y := by
    cases e : short ls with
    | nil => rw [e] at p; exact absurd p (by decide)
    | cons a r => exact ⟨_, List.getLast?_eq_some_getLast (by simp)⟩
  have le := short_len_le ls
  have e1 : lifeAt (short ls) ls.length = y := lifeAt_ge le hy
  rw [lifeAt_short h0, lifeAt_ge (Nat.le_refl _) h] at e1
  rw [hy, e1]
theorem shl_int {i j : Int} {n : Nat} (h : i.natAbs < 2 ^ n) (h0 : 0 ≤ j) (h1 : (n : Int) + j ≤ 134217728) : CShl i j := by
  obtain ⟨m, rfl⟩ := Int.eq_ofNat_of_zero_le h0
  exact shl_ok h (by omega)
end Rk
namespace Rk
open PySem PySem.Spec PyProof.Rows L2

/-! ### tuples that the heap holds, one by one -/
def TAt (H : Hp) : List V → List (List V) → Prop
  | [], [] => True
  | x :: xs, y :: ys => (∃ t, x = .ref t ∧ H t = some (.tup y)) ∧ TAt H xs ys
  | _, _ => False
theorem TAt.length {H : Hp} : ∀ {xs : List V} {ps : List (List V)}, TAt H xs ps → xs.length = ps.length
  | [], [], _ => rfl
  | _ :: _, _ :: _, h => congrArg (· + 1) (TAt.length h.2)
  | [], _ :: _, h => h.elim
  | _ :: _, [], h => h.elim
theorem TAt.keep {H H' : Hp} (k : ∀ t ys, H t = some (.tup ys) → H' t = some (.tup ys)) : ∀ {xs : List V} {ps : List (List V)}, TAt H xs ps → TAt H' xs ps
  | [], [], _ => trivial
  | _ :: _, _ :: _, ⟨⟨t, e, h⟩, r⟩ => ⟨⟨t, e, k _ _ h⟩, TAt.keep k r⟩
  | [], _ :: _, h => h.elim
  | _ :: _, [], h => h.elim
theorem TAt.same {H H' : Hp} (s : Same H H') {xs : List V} {ps : List (List V)} (h : TAt H xs ps) : TAt H' xs ps := h.keep fun _ _ e => s _ _ e
theorem TAt.snoc {H : Hp} {t : Addr} {p : List V} (e : H t = some (.tup p)) : ∀ {xs : List V} {ps : List (List V)}, TAt H xs ps → TAt H (xs ++ [.ref t]) (ps ++ [p])
  | [], [], _ => ⟨⟨t, rfl, e⟩, trivial⟩
  | _ :: _, _ :: _, ⟨a, r⟩ => ⟨a, TAt.snoc e r⟩
  | [], _ :: _, h => h.elim
  | _ :: _, [], h => h.elim
theorem TAt.get {H : Hp} : ∀ {xs : List V} {ps : List (List V)} {i : Nat} {x : V}, TAt H xs ps → xs[i]? = some x → ∃ t p, x = .ref t ∧ ps[i]? = some p ∧ H t = some (.tup p)
  | [], [], i, x, _, e => by simp at e
  | _ :: _, p :: _, 0, x, ⟨⟨t, a, h⟩, r⟩, e => by
    have : x = .ref t := by rw [← a]; simpa using e.symm
    exact ⟨t, p, this, rfl, h⟩
  | _ :: xs, _ :: ps, i + 1, x, ⟨_, r⟩, e => TAt.get (xs := xs) (ps := ps) (i := i) r (by simpa using e)
  | [], _ :: _, _, _, h, _ => h.elim
  | _ :: _, [], _, _, h, _ => h.elim
theorem TAt.upd {H : Hp} {F : Addr} {ys : List V} {o : HO} (hF : H F = some (.lst ys)) {xs : List V} {ps : List (List V)} (h : TAt H xs ps) : TAt (upd H F o) xs ps := h.keep fun t ws e => by
  have n : t ≠ F := ne_of e hF (by intro z; cases z)
  rw [upd_ne n]
  exact e

/-! ### the bands of the kept points -/
def bandLo (tick : Int) : Option Int → Int
  | none => 0
  | some b => if tick + 1 ≤ b then 0 else tick + 1 - b
theorem bandLo_some (tick b : Int) : bandLo tick (some b) = if tick + 1 ≤ b then 0 else tick + 1 - b := rfl
def bandsOf (tick : Int) : Nat → Int → List (Option Int) → List (Int × Int × Int)
  | _, _, [] => []
  | i, hi, l :: r => (bandLo tick l, hi, 2 ^ i) :: bandsOf tick (i + 1) (bandLo tick l - 1) r
def bandV (b : Int × Int × Int) : List V := [.int b.1, .int b.2.1, .int b.2.2]
theorem bands_len (tick : Int) : ∀ (ls : List (Option Int)) (i : Nat) (hi : Int), (bandsOf tick i hi ls).length = ls.length
  | [], _, _ => rfl
  | _ :: r, i, hi => congrArg (· + 1) (bands_len tick r (i + 1) _)
theorem bandLo_le {tick : Int} (h : 0 ≤ tick) {l : Option Int} (hl : ∀ v, l = some v → 0 ≤ v) : 0 ≤ bandLo tick l ∧ bandLo tick l ≤ tick + 1 := by
  cases l with
  | none => exact ⟨Int.le_refl _, show (0 : Int) ≤ tick + 1 by omega⟩
  | some b =>
    have := hl b rfl
    rw [bandLo_some]
    by_cases c : tick + 1 ≤ b
    · rw [if_pos c]; omega
    · rw [if_neg c]; omega
theorem bandLo_mono {tick : Int} (h : 0 ≤ tick) {x y : Option Int} (e : leO x y = true) : bandLo tick y ≤ bandLo tick x := by
  cases y with
  | none =>
    cases x with
    | none => exact Int.le_refl _
    | some a =>
      show (0 : Int) ≤ bandLo tick (some a)
      rw [bandLo_some]
      by_cases c : tick + 1 ≤ a
      · rw [if_pos c]; exact Int.le_refl _
      · rw [if_neg c]; omega
  | some b =>
    cases x with
    | none => cases e
    | some a =>
      have hab : a ≤ b := of_decide_eq_true e
      rw [bandLo_some, bandLo_some]
      by_cases c : tick + 1 ≤ b
      · rw [if_pos c]
        by_cases d : tick + 1 ≤ a
        · rw [if_pos d]; exact Int.le_refl _
        · rw [if_neg d]; omega
      · have d : ¬ tick + 1 ≤ a := by omega
        rw [if_neg c, if_neg d]
        omega
/-- how many multiples of s lie from l to h -/
def mulN (l h s : Int) : Int := if l > h then 0 else h / s - (l - 1) / s
theorem mulN_nonneg {l h s : Int} (hs : 0 < s) : 0 ≤ mulN l h s := by
  unfold mulN
  by_cases c : l > h
  · rw [if_pos c]; exact Int.le_refl _
  · rw [if_neg c]
    have := Int.ediv_le_ediv hs (show l - 1 ≤ h by omega)
    omega
theorem mulN_le {l h s : Int} (hs : 0 < s) (hl : 0 ≤ l) (hh : 0 ≤ h) : mulN l h s ≤ h + 1 := by
  unfold mulN
  by_cases c : l > h
  · rw [if_pos c]; omega
  · rw [if_neg c]
    have a1 : h / s ≤ h := Int.ediv_le_self s hh
    have a2 : -1 ≤ (l - 1) / s := by
      have := Int.ediv_le_ediv hs (show (-1 : Int) ≤ l - 1 by omega)
      have e : (-1 : Int) / s = -1 := by
        rw [Int.ediv_eq_iff_of_pos hs]
        omega
      omega
    omega
theorem mulN_cut {l m h s : Int} (h1 : l ≤ m + 1) (h2 : m ≤ h) : mulN l m s + mulN (m + 1) h s = mulN l h s := by
  unfold mulN
  have e : m + 1 - 1 = m := by omega
  by_cases a : l > m
  · rw [if_pos a]
    have : l = m + 1 := by omega
    subst this
    omega
  · rw [if_neg a]
    by_cases b : m + 1 > h
    · rw [if_pos b]
      have : m = h := by omega
      subst this
      rw [if_neg a]
      omega
    · rw [if_neg b, if_neg (show ¬ l > h by omega), e]
      omega
def cntB (low high tick : Int) : Nat → Int → List (Option Int) → Int
  | _, _, [] => 0
  | i, hi, l :: r => mulN (max low (bandLo tick l)) (min high hi) (2 ^ i) + cntB low high tick (i + 1) (bandLo tick l - 1) r
/-- the law's own sum -/
def lcnt (low H tick : Int) : Nat → List (Option Int) → Int
  | _, [] => 0
  | i, [l] => mulN (max low (bandLo tick l)) H (2 ^ i)
  | i, l :: m :: r => mulN (max low (bandLo tick l)) H (2 ^ i) - mulN (max low (bandLo tick l)) H (2 ^ (i + 1)) + lcnt low H tick (i + 1) (m :: r)
theorem mulN_split {low high tick lo P s : Int} (h1 : lo ≤ P) (h2 : P ≤ tick + 1) : mulN (max low lo) (min high tick) s - mulN (max low P) (min high tick) s = mulN (max low lo) (min high (P - 1)) s := by
  by_cases a : max low lo > min high tick
  · have b : max low P > min high tick := by omega
    have c : max low lo > min high (P - 1) := by omega
    unfold mulN
    rw [if_pos a, if_pos b, if_pos c]
    rfl
  · by_cases b : max low P > min high tick
    · have e : min high (P - 1) = min high tick := by omega
      rw [e]
      unfold mulN
      rw [if_pos b]
      omega
    · by_cases d : low ≤ P
      · have e1 : max low P = P := by omega
        have e2 : min high (P - 1) = P - 1 := by omega
        rw [e1, e2]
        rw [e1] at b
        have q := mulN_cut (l := max low lo) (m := P - 1) (h := min high tick) (s := s) (by omega) (by omega)
        have e3 : P - 1 + 1 = P := by omega
        rw [e3] at q
        omega
      · have e1 : max low lo = max low P := by omega
        have e2 : max low P > min high (P - 1) := by omega
        rw [e1]
        have e3 : mulN (max low P) (min high (P - 1)) s = 0 := if_pos e2
        rw [e3]
        omega
theorem lcnt_bands {low high tick : Int} (ht : 0 ≤ tick) : ∀ (ls : List (Option Int)) (i : Nat) (P : Int), ls ≠ [] → P ≤ tick + 1 → (∀ l, ls.head? = some l → bandLo tick l ≤ P) → (∀ (i : Nat) (x y : Option Int), ls[i]? = some x → ls[i + 1]? = some y → leO x y = true) → (∀ l ∈ ls, ∀ v, l = some v → 0 ≤ v) →
    lcnt low (min high tick) tick i ls - mulN (max low P) (min high tick) (2 ^ i) = cntB low high tick i (P - 1) ls
  | [], _, _, h, _, _, _, _ => absurd rfl h
  | [l], i, P, _, hP, hd, _, _ => by
    show mulN (max low (bandLo tick l)) (min high tick) (2 ^ i) - _ = mulN (max low (bandLo tick l)) (min high (P - 1)) (2 ^ i) + 0
    rw [mulN_split (hd l rfl) hP, Int.add_zero]
  | l :: m :: r, i, P, _, hP, hd, asc, hb => by
    have q := mulN_split (low := low) (high := high) (tick := tick) (s := 2 ^ i) (hd l rfl) hP
    have hlo := bandLo_le ht (hb l List.mem_cons_self)
    have ih := lcnt_bands (low := low) (high := high) ht (m :: r) (i + 1) (bandLo tick l) (by simp) hlo.2 (fun x hx => by
      have : m = x := by simpa using hx
      rw [← this]
      exact bandLo_mono ht (asc 0 l m rfl rfl)) (fun j x y hx hy => asc (j + 1) x y hx hy) (fun x hx => hb x (List.mem_cons_of_mem _ hx))
    show mulN (max low (bandLo tick l)) (min high tick) (2 ^ i) - mulN (max low (bandLo tick l)) (min high tick) (2 ^ (i + 1)) + lcnt low (min high tick) tick (i + 1) (m :: r) - _ = mulN (max low (bandLo tick l)) (min high (P - 1)) (2 ^ i) + cntB low high tick (i + 1) (bandLo tick l - 1) (m :: r)
    omega
theorem lcnt_all {low high tick : Int} (ht : 0 ≤ tick) {ls : List (Option Int)} (g : Good ls) : lcnt low (min high tick) tick 0 ls = cntB low high tick 0 tick ls := by
  have hb : ∀ l ∈ ls, ∀ v, l = some v → 0 ≤ v := fun l hl v e => (g.bd l hl v e).1
  have q := lcnt_bands (low := low) (high := high) ht ls 0 (tick + 1) (by intro z; have := g.pos; rw [z] at this; exact absurd this (by decide)) (Int.le_refl _) (fun l hl => (bandLo_le ht (hb l (by
    cases ls with
    | nil => cases hl
    | cons a r => rw [show a = l by simpa using hl]; exact List.mem_cons_self))).2) g.asc hb
  have e1 : tick + 1 - 1 = tick := by omega
  have e2 : mulN (max low (tick + 1)) (min high tick) (2 ^ 0) = 0 := if_pos (by omega)
  rw [e1, e2] at q
  omega
theorem lcnt_snoc {low H tick : Int} {l : Option Int} : ∀ (xs : List (Option Int)) (i : Nat), xs.getLast? = some l → lcnt low H tick i (xs ++ [l]) = lcnt low H tick i xs
  | [], _, h => by simp at h
  | [x], i, h => by
    have e : x = l := by simpa using h
    subst e
    show mulN (max low (bandLo tick x)) H (2 ^ i) - mulN (max low (bandLo tick x)) H (2 ^ (i + 1)) + mulN (max low (bandLo tick x)) H (2 ^ (i + 1)) = mulN (max low (bandLo tick x)) H (2 ^ i)
    omega
  | x :: y :: r, i, h => by
    have h' : (y :: r).getLast? = some l := by simpa [List.getLast?_cons_cons] using h
    have ih := lcnt_snoc (low := low) (H := H) (tick := tick) (y :: r) (i + 1) h'
    show _ - _ + lcnt low H tick (i + 1) ((y :: r) ++ [l]) = _ - _ + lcnt low H tick (i + 1) (y :: r)
    rw [ih]
theorem lcnt_take {low H tick : Int} {ls : List (Option Int)} : ∀ n, n ≤ ls.length → lcnt low H tick 0 (ls.take (cutN ls n)) = lcnt low H tick 0 (ls.take n)
  | 0, _ => rfl
  | 1, _ => rfl
  | n + 2, hn => by
    by_cases h : ls[n + 1]? = ls[n]?
    · rw [cutN_eq h, lcnt_take (n + 1) (by omega)]
      have h1 : n + 1 < ls.length := by omega
      have e : ls.take (n + 2) = ls.take (n + 1) ++ [ls[n + 1]] := (List.take_append_getElem h1).symm
      rw [e]
      symm
      apply lcnt_snoc
      rw [List.getLast?_eq_getElem?, List.length_take, Nat.min_eq_left (by omega)]
      show (ls.take (n + 1))[n]? = some ls[n + 1]
      rw [List.getElem?_take_of_lt (by omega), ← h, List.getElem?_eq_getElem h1]
    · rw [cutN_ne h]
/-- the law's sum over all lives is the count over the bands of the shortest -/
theorem lcnt_short {low high tick : Int} (ht : 0 ≤ tick) {ls : List (Option Int)} (g : Good ls) : lcnt low (min high tick) tick 0 ls = cntB low high tick 0 tick (short ls) := by
  rw [← lcnt_all ht (good_short g)]
  unfold short
  rw [lcnt_take _ (Nat.le_refl _), List.take_length]
theorem cntB_cut {a m c tick : Int} (h1 : a ≤ m + 1) (h2 : m ≤ c) : ∀ (ls : List (Option Int)) (i : Nat) (hi : Int), cntB a m tick i hi ls + cntB (m + 1) c tick i hi ls = cntB a c tick i hi ls
  | [], _, _ => rfl
  | l :: r, i, hi => by
    have ih := cntB_cut (tick := tick) h1 h2 r (i + 1) (bandLo tick l - 1)
    have key : ∀ lo s : Int, mulN (max a lo) (min m hi) s + mulN (max (m + 1) lo) (min c hi) s = mulN (max a lo) (min c hi) s := by
      intro lo s
      by_cases x : lo ≤ m + 1
      · by_cases y : m ≤ hi
        · have e1 : min m hi = m := by omega
          have e2 : max (m + 1) lo = m + 1 := by omega
          rw [e1, e2]
          exact mulN_cut (by omega) (by omega)
        · have e1 : min m hi = hi := by omega
          have e2 : min c hi = hi := by omega
          have e3 : mulN (max (m + 1) lo) hi s = 0 := if_pos (by omega)
          rw [e1, e2, e3]
          omega
      · have e1 : mulN (max a lo) (min m hi) s = 0 := if_pos (by omega)
        have e2 : max (m + 1) lo = max a lo := by omega
        rw [e1, e2]
        omega
    have k := key (bandLo tick l) (2 ^ i)
    show mulN (max a (bandLo tick l)) (min m hi) (2 ^ i) + cntB a m tick (i + 1) (bandLo tick l - 1) r + (mulN (max (m + 1) (bandLo tick l)) (min c hi) (2 ^ i) + cntB (m + 1) c tick (i + 1) (bandLo tick l - 1) r) = mulN (max a (bandLo tick l)) (min c hi) (2 ^ i) + cntB a c tick (i + 1) (bandLo tick l - 1) r
    omega
theorem cntB_over {low high tick : Int} (ht : 0 ≤ tick) (h : tick < low) : ∀ (ls : List (Option Int)) (i : Nat) (hi : Int), hi ≤ tick → (∀ l ∈ ls, ∀ v, l = some v → 0 ≤ v) → cntB low high tick i hi ls = 0
  | [], _, _, _, _ => rfl
  | l :: r, i, hi, hh, hb => by
    have hlo := bandLo_le ht (hb l List.mem_cons_self)
    have ih := cntB_over (low := low) (high := high) ht h r (i + 1) (bandLo tick l - 1) (by omega) (fun x hx => hb x (List.mem_cons_of_mem _ hx))
    have e : mulN (max low (bandLo tick l)) (min high hi) (2 ^ i) = 0 := if_pos (by omega)
    show mulN (max low (bandLo tick l)) (min high hi) (2 ^ i) + cntB low high tick (i + 1) (bandLo tick l - 1) r = 0
    rw [e, ih]
    rfl
theorem cntB_bound {low high tick : Int} (h0 : 0 ≤ low) (h1 : 0 ≤ high) : ∀ (ls : List (Option Int)) (i : Nat) (hi : Int), 0 ≤ cntB low high tick i hi ls ∧ cntB low high tick i hi ls ≤ (ls.length : Int) * (high + 1)
  | [], _, _ => ⟨Int.le_refl _, by show (0 : Int) ≤ ((0 : Nat) : Int) * _; simp⟩
  | l :: r, i, hi => by
    have ih := cntB_bound (tick := tick) h0 h1 r (i + 1) (bandLo tick l - 1)
    have a1 := mulN_nonneg (l := max low (bandLo tick l)) (h := min high hi) (pow2_pos i)
    have a2 : mulN (max low (bandLo tick l)) (min high hi) (2 ^ i) ≤ high + 1 := by
      by_cases c : 0 ≤ min high hi
      · have := mulN_le (l := max low (bandLo tick l)) (h := min high hi) (pow2_pos i) (by omega) c
        omega
      · have e : mulN (max low (bandLo tick l)) (min high hi) (2 ^ i) = 0 := if_pos (by omega)
        omega
    have e : (((l :: r).length : Nat) : Int) * (high + 1) = (r.length : Int) * (high + 1) + (high + 1) := by
      rw [List.length_cons, Int.natCast_add, Int.add_mul]
      simp
    show 0 ≤ mulN (max low (bandLo tick l)) (min high hi) (2 ^ i) + cntB low high tick (i + 1) (bandLo tick l - 1) r ∧ mulN (max low (bandLo tick l)) (min high hi) (2 ^ i) + cntB low high tick (i + 1) (bandLo tick l - 1) r ≤ _
    rw [e]
    omega
/-- the law's own way to count multiples -/
theorem mulN_law {l h s : Int} (hs : 0 < s) : (if h / s - (l + s - 1) / s + 1 > 0 then h / s - (l + s - 1) / s + 1 else 0) = mulN l h s := by
  have e : (l + s - 1) / s = (l - 1) / s + 1 := by
    have e2 : l + s - 1 = (l - 1) + 1 * s := by omega
    rw [e2, Int.add_mul_ediv_right _ _ (by omega)]
  rw [e]
  unfold mulN
  by_cases c : l > h
  · rw [if_pos c]
    have := Int.ediv_le_ediv hs (show h ≤ l - 1 by omega)
    rw [if_neg (by omega)]
  · rw [if_neg c]
    have := Int.ediv_le_ediv hs (show l - 1 ≤ h by omega)
    by_cases d : h / s - ((l - 1) / s + 1) + 1 > 0
    · rw [if_pos d]; omega
    · rw [if_neg d]; omega
end Rk
namespace Rk
open PySem PySem.Spec PyProof.Rows L2

/-! ### lives rise with the rank -/
theorem leO_refl (x : Option Int) : leO x x = true := by
  cases x with
  | none => rfl
  | some a => exact decide_eq_true (Int.le_refl a)
theorem leO_trans {x y z : Option Int} (a : leO x y = true) (b : leO y z = true) : leO x z = true := by
  cases z with
  | none => cases x <;> rfl
  | some c =>
    cases y with
    | none => cases b
    | some b' =>
      cases x with
      | none => cases a
      | some a' =>
        have h1 : a' ≤ b' := of_decide_eq_true a
        have h2 : b' ≤ c := of_decide_eq_true b
        exact decide_eq_true (Int.le_trans h1 h2)
theorem lifeAt_step {ls : List (Option Int)} (g : Good ls) (j : Nat) : leO (lifeAt ls j) (lifeAt ls (j + 1)) = true := by
  by_cases h : j + 1 < ls.length
  · have e0 := List.getElem?_eq_getElem (show j < ls.length by omega)
    have e1 := List.getElem?_eq_getElem h
    rw [lifeAt_lt e0, lifeAt_lt e1]
    exact g.asc j _ _ e0 e1
  · rw [lifeAt_const g.pos (j + 1) (by omega)]
    by_cases h2 : j = ls.length - 1
    · rw [h2]
      exact leO_refl _
    · rw [lifeAt_const g.pos j (by omega)]
      exact leO_refl _
theorem lifeAt_mono {ls : List (Option Int)} (g : Good ls) {j : Nat} : ∀ k, leO (lifeAt ls j) (lifeAt ls (j + k)) = true
  | 0 => leO_refl _
  | k + 1 => leO_trans (lifeAt_mono g k) (lifeAt_step g (j + k))
theorem lifeAt_le {ls : List (Option Int)} (g : Good ls) {j k : Nat} (h : j ≤ k) : leO (lifeAt ls j) (lifeAt ls k) = true := by
  have := lifeAt_mono g (j := j) (k - j)
  rw [show j + (k - j) = k by omega] at this
  exact this
/-! ### the rank of a point -/
def rkI (n : Int) : Nat := if n = 0 then 1000 else tz n.toNat
theorem tz_dvd : ∀ (i n : Nat), 0 < n → (n % 2 ^ i = 0 ↔ i ≤ tz n)
  | 0, n, _ => by
    rw [Nat.pow_zero, Nat.mod_one]
    exact ⟨fun _ => Nat.zero_le _, fun _ => rfl⟩
  | i + 1, n, h => by
    by_cases e : n % 2 = 0
    · rw [tz_even h e]
      have ih := tz_dvd i (n / 2) (by omega)
      have q : n % 2 ^ (i + 1) = 2 * (n / 2 % 2 ^ i) := by
        have e1 : n = 2 * (n / 2) := by omega
        conv => lhs; rw [e1, Nat.pow_succ, Nat.mul_comm (2 ^ i), Nat.mul_mod_mul_left]
      rw [q]
      omega
    · rw [tz_odd (by omega)]
      constructor
      · intro z
        exfalso
        have d : 2 ^ (i + 1) ∣ n := Nat.dvd_of_mod_eq_zero z
        have d2 : 2 ∣ n := Nat.dvd_trans ⟨2 ^ i, by rw [Nat.pow_succ, Nat.mul_comm]⟩ d
        omega
      · intro z
        exact absurd z (by omega)
theorem emod_pow_cast (n i : Nat) : ((n : Nat) : Int) % 2 ^ i = 0 ↔ n % 2 ^ i = 0 := by
  have e : (2 : Int) ^ i = ((2 ^ i : Nat) : Int) := by rw [Int.natCast_pow]; rfl
  rw [e, ← Int.natCast_emod]
  omega
theorem rk_dvd {n : Int} (h : 0 ≤ n) {i : Nat} (hi : i ≤ 1000) : n % 2 ^ i = 0 ↔ i ≤ rkI n := by
  unfold rkI
  by_cases z : n = 0
  · rw [if_pos z, z]
    simp [hi]
  · rw [if_neg z]
    obtain ⟨m, rfl⟩ := Int.eq_ofNat_of_zero_le h
    rw [emod_pow_cast]
    exact tz_dvd i m (by omega)
/-! ### what is kept -/
def Kept (ls : List (Option Int)) (t n : Int) : Prop := 0 ≤ n ∧ n ≤ t ∧ leO (some (t - n + 1)) (lifeAt ls (rkI n)) = true
theorem enough_iff {t n : Int} (h : 0 ≤ n) (l : Option Int) : leO (some (t - n + 1)) l = true ↔ bandLo t l ≤ n := by
  cases l with
  | none => exact ⟨fun _ => h, fun _ => rfl⟩
  | some b =>
    rw [bandLo_some]
    constructor
    · intro z
      have z' : t - n + 1 ≤ b := of_decide_eq_true z
      by_cases c : t + 1 ≤ b
      · rw [if_pos c]; exact h
      · rw [if_neg c]; omega
    · intro z
      refine decide_eq_true ?_
      by_cases c : t + 1 ≤ b
      · omega
      · rw [if_neg c] at z
        omega
theorem kept_short {ls : List (Option Int)} (h0 : 0 < ls.length) {t n : Int} : Kept (short ls) t n ↔ Kept ls t n := by
  unfold Kept
  rw [lifeAt_short h0]
def inB (t : Int) : Nat → Int → List (Option Int) → Int → Prop
  | _, _, [], _ => False
  | i, hi, l :: r, n => (bandLo t l ≤ n ∧ n ≤ hi ∧ n % 2 ^ i = 0) ∨ inB t (i + 1) (bandLo t l - 1) r n
theorem inB_le {t : Int} (ht : 0 ≤ t) : ∀ (ls : List (Option Int)) (i : Nat) (hi n : Int), (∀ l, ls.head? = some l → bandLo t l ≤ hi + 1) → (∀ (i : Nat) (x y : Option Int), ls[i]? = some x → ls[i + 1]? = some y → leO x y = true) → inB t i hi ls n → n ≤ hi
  | [], _, _, _, _, _, h => h.elim
  | l :: r, i, hi, n, hd, asc, h => by
    have h1 := hd l rfl
    rcases h with h | h
    · exact h.2.1
    · have q := inB_le ht r (i + 1) (bandLo t l - 1) n (fun m hm => by
        cases r with
        | nil => cases hm
        | cons a r' =>
          have e : a = m := by simpa using hm
          have := bandLo_mono ht (asc 0 l a rfl rfl)
          rw [← e]
          omega) (fun j x y hx hy => asc (j + 1) x y hx hy) h
      omega
theorem inB_kept {ls : List (Option Int)} (g : Good ls) {t : Int} (ht : 0 ≤ t) {n : Int} (hn : 0 ≤ n) (hnt : n ≤ t) : ∀ (r : List (Option Int)) (i : Nat) (hi : Int), ls.drop i = r → i ≤ ls.length → n ≤ hi → (i = 0 ∨ n < bandLo t (lifeAt ls (i - 1))) → (inB t i hi r n ↔ Kept ls t n)
  | [], i, hi, e, hil, hnh, hp => by
    have hi0 : i = ls.length := by
      have := congrArg List.length e
      rw [List.length_drop, List.length_nil] at this
      omega
    have h0 := g.pos
    refine ⟨fun z => z.elim, fun z => ?_⟩
    rcases hp with hp | hp
    · omega
    · have k := (enough_iff hn _).mp z.2.2
      have m : leO (lifeAt ls (rkI n)) (lifeAt ls (i - 1)) = true := by
        by_cases c : rkI n ≤ i - 1
        · exact lifeAt_le g c
        · rw [hi0, lifeAt_const h0 (rkI n) (by omega)]
          exact leO_refl _
      have := bandLo_mono ht m
      omega
  | l :: r, i, hi, e, hil, hnh, hp => by
    have hi1 : i < ls.length := by
      have := congrArg List.length e
      rw [List.length_drop, List.length_cons] at this
      omega
    have hm := g.most
    have el : lifeAt ls i = l := by
      have e2 := drop_cons (List.getElem?_eq_getElem hi1)
      rw [e] at e2
      have e3 : l = ls[i] := (List.cons.inj e2).1
      rw [lifeAt_lt (List.getElem?_eq_getElem hi1), e3]
    have er : ls.drop (i + 1) = r := by
      have e2 := drop_cons (List.getElem?_eq_getElem hi1)
      rw [e] at e2
      exact (List.cons.inj e2).2.symm
    by_cases c : bandLo t l ≤ n
    · have no : ¬ inB t (i + 1) (bandLo t l - 1) r n := by
        intro z
        have := inB_le ht r (i + 1) (bandLo t l - 1) n (fun m hm2 => by
          have e2 : ls[i + 1]? = some m := by
            rw [← er] at hm2
            rw [List.head?_drop] at hm2
            exact hm2
          have := bandLo_mono ht (g.asc i (ls[i]) m (List.getElem?_eq_getElem hi1) e2)
          rw [← lifeAt_lt (List.getElem?_eq_getElem hi1), el] at this
          omega) (fun j x y hx hy => by
            rw [← er] at hx hy
            rw [List.getElem?_drop] at hx hy
            exact g.asc (i + 1 + j) x y hx (by rw [show i + 1 + j + 1 = i + 1 + (j + 1) by omega]; exact hy)) z
        omega
      have k : Kept ls t n ↔ i ≤ rkI n := by
        constructor
        · intro z
          by_cases d : i ≤ rkI n
          · exact d
          · exfalso
            rcases hp with hp | hp
            · omega
            · have k := (enough_iff hn _).mp z.2.2
              have := bandLo_mono ht (lifeAt_le g (show rkI n ≤ i - 1 by omega))
              omega
        · intro z
          refine ⟨hn, hnt, (enough_iff hn _).mpr ?_⟩
          have := bandLo_mono ht (lifeAt_le g z)
          rw [el] at this
          omega
      rw [k, ← rk_dvd hn (by omega : i ≤ 1000)]
      constructor
      · rintro (z | z)
        · exact z.2.2
        · exact absurd z no
      · intro z
        exact .inl ⟨c, hnh, z⟩
    · have ih := inB_kept g ht hn hnt r (i + 1) (bandLo t l - 1) er (by omega) (by omega) (.inr (by
        show n < bandLo t (lifeAt ls (i + 1 - 1))
        rw [show i + 1 - 1 = i by omega, el]
        omega))
      rw [← ih]
      constructor
      · rintro (z | z)
        · exact absurd z.1 c
        · exact z
      · exact .inr
theorem inB_iff {ls : List (Option Int)} (g : Good ls) {t : Int} (ht : 0 ≤ t) {n : Int} (hn : 0 ≤ n) (hnt : n ≤ t) : inB t 0 t ls n ↔ Kept ls t n := inB_kept g ht hn hnt ls 0 t rfl (Nat.zero_le _) hnt (.inl rfl)
/-! ### the restore point -/
def rpB : List (Int × Int × Int) → Int → Option Int
  | [], _ => none
  | b :: r, e => if b.1 ≤ min b.2.1 e - min b.2.1 e % b.2.2 then some (min b.2.1 e - min b.2.1 e % b.2.2) else rpB r e
theorem mult_le {m n s : Int} (hs : 0 < s) (h : n ≤ m) (hn : n % s = 0) : n ≤ m - m % s := by
  have e1 := Int.mul_ediv_add_emod m s
  have e2 := Int.mul_ediv_add_emod n s
  have e3 := Int.ediv_le_ediv hs h
  have e4 : s * (n / s) ≤ s * (m / s) := Int.mul_le_mul_of_nonneg_left e3 (Int.le_of_lt hs)
  omega
theorem mult_self {m s : Int} (hs : 0 < s) : (m - m % s) % s = 0 := by
  have e1 := Int.mul_ediv_add_emod m s
  have e2 : m - m % s = s * (m / s) := by omega
  rw [e2]
  exact Int.mul_emod_right s _
theorem rpB_spec {t : Int} (ht : 0 ≤ t) (e : Int) : ∀ (ls : List (Option Int)) (i : Nat) (hi : Int), (∀ l, ls.head? = some l → bandLo t l ≤ hi + 1) → (∀ (i : Nat) (x y : Option Int), ls[i]? = some x → ls[i + 1]? = some y → leO x y = true) →
    (∀ p, rpB (bandsOf t i hi ls) e = some p → inB t i hi ls p ∧ p ≤ e ∧ ∀ n, inB t i hi ls n → n ≤ e → n ≤ p) ∧ (rpB (bandsOf t i hi ls) e = none → ∀ n, inB t i hi ls n → ¬ n ≤ e)
  | [], _, _, _, _ => ⟨fun p h => (by cases h), fun _ n h => h.elim⟩
  | l :: r, i, hi, hd, asc => by
    have hh : ∀ m, r.head? = some m → bandLo t m ≤ bandLo t l - 1 + 1 := fun m hm => by
      cases r with
      | nil => cases hm
      | cons a r' =>
        have e : a = m := by simpa using hm
        have := bandLo_mono ht (asc 0 l a rfl rfl)
        rw [← e]
        omega
    have ha : ∀ (i : Nat) (x y : Option Int), r[i]? = some x → r[i + 1]? = some y → leO x y = true := fun j x y hx hy => asc (j + 1) x y hx hy
    obtain ⟨i1, i2⟩ := rpB_spec ht e r (i + 1) (bandLo t l - 1) hh ha
    have p2 := pow2_pos i
    have m0 := Int.emod_nonneg (min hi e) (show (2 : Int) ^ i ≠ 0 by omega)
    have m1 := Int.emod_lt_of_pos (min hi e) p2
    have m2 := mult_self (m := min hi e) p2
    have low : ∀ n, inB t (i + 1) (bandLo t l - 1) r n → n ≤ bandLo t l - 1 := fun n z => inB_le ht r (i + 1) (bandLo t l - 1) n hh ha z
    have eu : rpB (bandsOf t i hi (l :: r)) e = if bandLo t l ≤ min hi e - min hi e % 2 ^ i then some (min hi e - min hi e % 2 ^ i) else rpB (bandsOf t (i + 1) (bandLo t l - 1) r) e := rfl
    rw [eu]
    by_cases c : bandLo t l ≤ min hi e - min hi e % 2 ^ i
    · rw [if_pos c]
      refine ⟨fun p hp => ?_, fun z => by cases z⟩
      obtain rfl : min hi e - min hi e % 2 ^ i = p := Option.some.inj hp
      refine ⟨.inl ⟨c, by omega, m2⟩, by omega, fun n hn hne => ?_⟩
      rcases hn with hn | hn
      · exact mult_le p2 (by omega) hn.2.2
      · have := low n hn
        omega
    · rw [if_neg c]
      have none1 : ∀ n, (bandLo t l ≤ n ∧ n ≤ hi ∧ n % 2 ^ i = 0) → ¬ n ≤ e := fun n hn hne => by
        have := mult_le p2 (show n ≤ min hi e by omega) hn.2.2
        omega
      refine ⟨fun p hp => ?_, fun z n hn => ?_⟩
      · obtain ⟨a1, a2, a3⟩ := i1 p hp
        refine ⟨.inr a1, a2, fun n hn hne => ?_⟩
        rcases hn with hn | hn
        · exact absurd hne (none1 n hn)
        · exact a3 n hn hne
      · rcases hn with hn | hn
        · exact none1 n hn
        · exact i2 z n hn
def rpO (ls : List (Option Int)) (t e : Int) : Option Int := rpB (bandsOf t 0 t ls) e
theorem inB_nonneg {t : Int} (ht : 0 ≤ t) : ∀ (ls : List (Option Int)) (i : Nat) (hi n : Int), (∀ l ∈ ls, ∀ v, l = some v → 0 ≤ v) → inB t i hi ls n → 0 ≤ n
  | [], _, _, _, _, h => h.elim
  | l :: r, i, hi, n, hb, h => by
    rcases h with h | h
    · have := (bandLo_le ht (hb l List.mem_cons_self)).1
      omega
    · exact inB_nonneg ht r _ _ n (fun x hx => hb x (List.mem_cons_of_mem _ hx)) h
theorem rpO_spec {ls : List (Option Int)} (g : Good ls) {t : Int} (ht : 0 ≤ t) (e : Int) :
    (∀ p, rpO ls t e = some p → Kept ls t p ∧ p ≤ e ∧ ∀ n, Kept ls t n → n ≤ e → n ≤ p) ∧ (rpO ls t e = none → ∀ n, Kept ls t n → ¬ n ≤ e) := by
  have hb : ∀ l ∈ ls, ∀ v, l = some v → 0 ≤ v := fun l hl v e => (g.bd l hl v e).1
  have hd : ∀ l, ls.head? = some l → bandLo t l ≤ t + 1 := fun l hl => (bandLo_le ht (hb l (List.mem_of_mem_head? hl))).2
  obtain ⟨a, b⟩ := rpB_spec ht e ls 0 t hd g.asc
  refine ⟨fun p hp => ?_, fun z n hn => ?_⟩
  · obtain ⟨a1, a2, a3⟩ := a p hp
    have p0 := inB_nonneg ht ls 0 t p hb a1
    have p1 := inB_le ht ls 0 t p hd g.asc a1
    exact ⟨(inB_iff g ht p0 p1).mp a1, a2, fun n hn hne => a3 n ((inB_iff g ht hn.1 hn.2.1).mpr hn) hne⟩
  · exact b z n ((inB_iff g ht hn.1 hn.2.1).mpr hn)
/-- the restore point is told by what is kept -/
theorem rpO_some {ls : List (Option Int)} (g : Good ls) {t : Int} (ht : 0 ≤ t) {e p : Int} (hp : Kept ls t p) (he : p ≤ e) (h : ∀ n, Kept ls t n → n ≤ e → n ≤ p) : rpO ls t e = some p := by
  obtain ⟨a, b⟩ := rpO_spec g ht e
  cases z : rpO ls t e with
  | none => exact absurd he (b z p hp)
  | some q =>
    obtain ⟨a1, a2, a3⟩ := a q z
    have h1 := a3 p hp he
    have h2 := h q a1 a2
    rw [show q = p by omega]
theorem rpO_none {ls : List (Option Int)} (g : Good ls) {t : Int} (ht : 0 ≤ t) {e : Int} (h : ∀ n, Kept ls t n → ¬ n ≤ e) : rpO ls t e = none := by
  obtain ⟨a, b⟩ := rpO_spec g ht e
  cases z : rpO ls t e with
  | none => rfl
  | some q =>
    obtain ⟨a1, a2, a3⟩ := a q z
    exact absurd a2 (h q a1)
theorem rpO_short {ls : List (Option Int)} (g : Good ls) {t : Int} (ht : 0 ≤ t) (e : Int) : rpO (short ls) t e = rpO ls t e := by
  obtain ⟨a, b⟩ := rpO_spec g ht e
  cases z : rpO ls t e with
  | none => exact rpO_none (good_short g) ht fun n hn => b z n ((kept_short g.pos).mp hn)
  | some q =>
    obtain ⟨a1, a2, a3⟩ := a q z
    exact rpO_some (good_short g) ht ((kept_short g.pos).mpr a1) a2 fun n hn => a3 n ((kept_short g.pos).mp hn)
def distO (ls : List (Option Int)) (t a : Int) : Option Int := (rpO ls t (t - a)).map fun p => t - a - p
theorem distO_short {ls : List (Option Int)} (g : Good ls) {t : Int} (ht : 0 ≤ t) (a : Int) : distO (short ls) t a = distO ls t a := by
  unfold distO
  rw [rpO_short g ht]
end Rk
namespace Rk
open PySem PySem.Spec PyProof.Rows L2
/-! ### worst distances, by what is kept -/
theorem leO_low {x y : Int} {l : Option Int} (h : leO (some x) l = true) (e : y ≤ x) : leO (some y) l = true := leO_trans (show leO (some y) (some x) = true from decide_eq_true e) h
theorem idx_all {a : Int} : ∀ (ls : List (Option Int)) (k : Nat), (∀ j, idx k ls a = some j → k ≤ j ∧ (∃ l, ls[j - k]? = some l ∧ leO (some (a + 2 ^ j)) l = true) ∧ ∀ i, k ≤ i → i < j → ∃ m, ls[i - k]? = some m ∧ leO (some (a + 2 ^ i)) m = false) ∧
    (idx k ls a = none → ∀ i l, ls[i]? = some l → leO (some (a + 2 ^ (k + i))) l = false)
  | [], k => ⟨fun j h => (by cases h), fun _ i l h => (by simp at h)⟩
  | x :: r, k => by
    have eu : idx k (x :: r) a = if leO (some (a + 2 ^ k)) x = true then some k else idx (k + 1) r a := rfl
    obtain ⟨i1, i2⟩ := idx_all (a := a) r (k + 1)
    rw [eu]
    by_cases c : leO (some (a + 2 ^ k)) x = true
    · rw [if_pos c]
      refine ⟨fun j hj => ?_, fun z => by cases z⟩
      obtain rfl : k = j := Option.some.inj hj
      exact ⟨Nat.le_refl _, ⟨x, by rw [Nat.sub_self]; rfl, c⟩, fun i h1 h2 => absurd h2 (by omega)⟩
    · have cf : leO (some (a + 2 ^ k)) x = false := by
        cases z : leO (some (a + 2 ^ k)) x with
        | true => exact absurd z c
        | false => rfl
      rw [if_neg c]
      refine ⟨fun j hj => ?_, fun z i l hl => ?_⟩
      · obtain ⟨a1, ⟨l, a2, a3⟩, a4⟩ := i1 j hj
        refine ⟨by omega, ⟨l, ?_, a3⟩, fun i h1 h2 => ?_⟩
        · rw [show j - k = (j - (k + 1)) + 1 by omega]
          exact a2
        · by_cases e : i = k
          · subst e
            exact ⟨x, by rw [Nat.sub_self]; rfl, cf⟩
          · obtain ⟨m, b1, b2⟩ := a4 i (by omega) h2
            exact ⟨m, by rw [show i - k = (i - (k + 1)) + 1 by omega]; exact b1, b2⟩
      · cases i with
        | zero =>
          have e : x = l := by simpa using hl
          rw [← e]
          exact cf
        | succ i =>
          have := i2 z i l (by simpa using hl)
          rw [show k + (i + 1) = k + 1 + i by omega]
          exact this
theorem idx_some {ls : List (Option Int)} {a : Int} {j : Nat} (h : idx 0 ls a = some j) : j < ls.length ∧ leO (some (a + 2 ^ j)) (lifeAt ls j) = true ∧ ∀ i, i < j → leO (some (a + 2 ^ i)) (lifeAt ls i) = false := by
  obtain ⟨_, ⟨l, a2, a3⟩, a4⟩ := (idx_all ls 0).1 j h
  rw [Nat.sub_zero] at a2
  refine ⟨(List.getElem?_eq_some_iff.mp a2).1, by rw [lifeAt_lt a2]; exact a3, fun i hi => ?_⟩
  obtain ⟨m, b1, b2⟩ := a4 i (Nat.zero_le _) hi
  rw [Nat.sub_zero] at b1
  rw [lifeAt_lt b1]
  exact b2
theorem idx_none {ls : List (Option Int)} {a : Int} (h : idx 0 ls a = none) : ∀ i, i < ls.length → leO (some (a + 2 ^ i)) (lifeAt ls i) = false := by
  intro i hi
  have e := List.getElem?_eq_getElem hi
  rw [lifeAt_lt e]
  have q := (idx_all ls 0).2 h i _ e
  rw [Nat.zero_add] at q
  exact q
theorem rk_small {n : Int} {j : Nat} (h0 : 0 < n) (h1 : n < 2 ^ j) (hj : j ≤ 1000) : rkI n < j ∧ 2 ^ rkI n ≤ 2 ^ j - n := by
  have r : rkI n < j := by
    by_cases c : rkI n < j
    · exact c
    · exfalso
      have d := (rk_dvd (by omega : 0 ≤ n) hj).mpr (by omega)
      rw [Int.emod_eq_of_lt (by omega) h1] at d
      omega
  refine ⟨r, ?_⟩
  have d1 : (2 : Int) ^ rkI n ∣ n := Int.dvd_of_emod_eq_zero ((rk_dvd (by omega : 0 ≤ n) (by omega)).mpr (Nat.le_refl _))
  have d2 : (2 : Int) ^ rkI n ∣ 2 ^ j := ⟨2 ^ (j - rkI n), by rw [← Int.pow_add]; congr 1; omega⟩
  exact Int.le_of_dvd (by omega) (Int.dvd_sub d2 d1)
theorem late_none {ls : List (Option Int)} {a : Int} {j : Nat} (hj : j ≤ 1000) (f : ∀ i, i < j → leO (some (a + 2 ^ i)) (lifeAt ls i) = false) {n : Int} (h0 : 0 < n) (hn : n ≤ 2 ^ j - 1) : ¬ Kept ls (a + 2 ^ j - 1) n := by
  intro k
  obtain ⟨r, q⟩ := rk_small h0 (by omega : n < 2 ^ j) hj
  have e := leO_low k.2.2 (show a + 2 ^ rkI n ≤ a + 2 ^ j - 1 - n + 1 by omega)
  rw [f _ r] at e
  cases e
theorem emod_le {m s : Int} (h : 0 ≤ m) (hs : 0 < s) : m % s ≤ m := by
  have e := Int.mul_ediv_add_emod m s
  have q := Int.mul_nonneg (Int.le_of_lt hs) (Int.ediv_nonneg h (Int.le_of_lt hs))
  omega
theorem lifeAt_last {ls : List (Option Int)} (h0 : 0 < ls.length) {m : Nat} (h : ls.length - 1 ≤ m) : lifeAt ls m = lifeAt ls (ls.length - 1) := by
  by_cases c : m = ls.length - 1
  · rw [c]
  · exact lifeAt_const h0 m (by omega)
theorem rkI_zero : rkI 0 = 1000 := rfl
theorem dist_at {ls : List (Option Int)} (g : Good ls) {a : Int} (ha : 0 ≤ a) {j : Nat} (h : idx 0 ls a = some j) : distO ls (a + 2 ^ j - 1) a = some (2 ^ j - 1) := by
  obtain ⟨h1, h2, h3⟩ := idx_some h
  have hm := g.most
  have p2 := pow2_pos j
  have e : a + 2 ^ j - 1 - a = 2 ^ j - 1 := by omega
  have k0 : Kept ls (a + 2 ^ j - 1) 0 := ⟨Int.le_refl _, by omega, by
    rw [rkI_zero, show a + 2 ^ j - 1 - 0 + 1 = a + 2 ^ j by omega]
    exact leO_trans h2 (lifeAt_le g (by omega))⟩
  unfold distO
  rw [e, rpO_some g (by omega) k0 (by omega) (fun n hn hne => by
    by_cases c : 0 < n
    · exact absurd hn (late_none (by omega) h3 c hne)
    · omega)]
  show some (2 ^ j - 1 - 0) = _
  rw [Int.sub_zero]
theorem dist_none {ls : List (Option Int)} (g : Good ls) {a : Int} (ha : 0 ≤ a) (h : idx 0 ls a = none) : distO ls (a + 2 ^ (ls.length - 1) - 1) a = none := by
  have h3 := idx_none h
  have hm := g.most
  have h0 := g.pos
  have p2 := pow2_pos (ls.length - 1)
  have e : a + 2 ^ (ls.length - 1) - 1 - a = 2 ^ (ls.length - 1) - 1 := by omega
  unfold distO
  rw [e, rpO_none g (by omega) (fun n hn hne => by
    by_cases c : 0 < n
    · exact late_none (by omega) (fun i hi => h3 i (by omega)) c hne hn
    · have z : n = 0 := by have := hn.1; omega
      subst z
      have k := hn.2.2
      rw [rkI_zero, lifeAt_const h0 1000 (by omega), show a + 2 ^ (ls.length - 1) - 1 - 0 + 1 = a + 2 ^ (ls.length - 1) by omega, h3 _ (by omega)] at k
      cases k)]
  rfl
theorem dist_lt {ls : List (Option Int)} (g : Good ls) {t a d : Int} (ht : 0 ≤ t) (h : distO ls t a = some d) : 0 ≤ d ∧ d ≤ t - a := by
  unfold distO at h
  cases z : rpO ls t (t - a) with
  | none => rw [z] at h; cases h
  | some p =>
    rw [z] at h
    have e : t - a - p = d := Option.some.inj h
    obtain ⟨a1, a2, _⟩ := (rpO_spec g ht (t - a)).1 p z
    have := a1.1
    omega
/-! ### the law's look, rank by rank -/
def gapP (L : Nat) (e : Int) (i : Nat) : Int := if i = L - 1 then e - e % 2 ^ i else e - (e - 2 ^ i) % (2 * 2 ^ i)
def gapF (ls : List (Option Int)) (t e : Int) (i : Nat) : Option Int := if (i = ls.length - 1 ∨ 2 ^ i ≤ e) ∧ leO (some (t - gapP ls.length e i + 1)) (lifeAt ls i) = true then some (e - gapP ls.length e i) else none
def gapL (ls : List (Option Int)) (t e : Int) (n : Nat) : List Int := (List.range n).filterMap (gapF ls t e)
theorem gapL_succ (ls : List (Option Int)) (t e : Int) (n : Nat) : gapL ls t e (n + 1) = gapL ls t e n ++ (match gapF ls t e n with | some x => [x] | none => []) := by
  unfold gapL
  rw [List.range_succ, List.filterMap_append]
  congr 1
  cases h : gapF ls t e n with
  | none => simp [List.filterMap, h]
  | some x => simp [List.filterMap, h]
/-- the candidate of a rank: in range, and of this rank's life -/
theorem gapP_at {ls : List (Option Int)} (g : Good ls) {e : Int} (he : 0 ≤ e) {i : Nat} (hi : i < ls.length) (hc : i = ls.length - 1 ∨ 2 ^ i ≤ e) : 0 ≤ gapP ls.length e i ∧ gapP ls.length e i ≤ e ∧ lifeAt ls (rkI (gapP ls.length e i)) = lifeAt ls i := by
  have p2 := pow2_pos i
  have hm := g.most
  unfold gapP
  by_cases c : i = ls.length - 1
  · rw [if_pos c]
    have m0 := Int.emod_nonneg e (show (2 : Int) ^ i ≠ 0 by omega)
    have m1 := Int.emod_lt_of_pos e p2
    have m2 := mult_self (m := e) p2
    have q0 : 0 ≤ e - e % 2 ^ i := by
      have := emod_le he p2
      omega
    refine ⟨q0, by omega, ?_⟩
    have r := (rk_dvd q0 (by omega : i ≤ 1000)).mp m2
    rw [lifeAt_last g.pos (m := rkI (e - e % 2 ^ i)) (by omega), c]
  · rw [if_neg c]
    have hc2 : 2 ^ i ≤ e := hc.resolve_left c
    have p3 : (0 : Int) < 2 * 2 ^ i := by omega
    have m0 := Int.emod_nonneg (e - 2 ^ i) (show (2 : Int) * 2 ^ i ≠ 0 by omega)
    have m1 := Int.emod_lt_of_pos (e - 2 ^ i) p3
    have m3 : (e - 2 ^ i) % (2 * 2 ^ i) ≤ e - 2 ^ i := emod_le (by omega) p3
    have dv : (2 * 2 ^ i : Int) ∣ (e - 2 ^ i) - (e - 2 ^ i) % (2 * 2 ^ i) := Int.dvd_of_emod_eq_zero (mult_self p3)
    refine ⟨by omega, by omega, ?_⟩
    have r : rkI (e - (e - 2 ^ i) % (2 * 2 ^ i)) = i := by
      obtain ⟨q, hq⟩ := dv
      have n0 : 0 ≤ e - (e - 2 ^ i) % (2 * 2 ^ i) := by omega
      have eq : e - (e - 2 ^ i) % (2 * 2 ^ i) = 2 ^ i * (2 * q + 1) := by
        have h1 : (2 : Int) ^ i * (2 * q + 1) = 2 * 2 ^ i * q + 2 ^ i := by
          rw [Int.mul_add, Int.mul_one, ← Int.mul_assoc, Int.mul_comm (2 ^ i) 2]
        omega
      have a1 := (rk_dvd n0 (by omega : i ≤ 1000)).mp (by rw [eq]; exact Int.mul_emod_right _ _)
      have a2 : ¬ i + 1 ≤ rkI (e - (e - 2 ^ i) % (2 * 2 ^ i)) := by
        intro z
        have b := (rk_dvd n0 (by omega : i + 1 ≤ 1000)).mpr z
        rw [eq, Int.pow_succ, Int.mul_emod_mul_of_pos _ _ p2, show (2 * q + 1) % 2 = 1 by omega, Int.mul_one] at b
        omega
      omega
    rw [r]
theorem gapP_max {ls : List (Option Int)} (g : Good ls) {t e n : Int} (hn : Kept ls t n) (hne : n ≤ e) : ∃ i, i < ls.length ∧ (i = ls.length - 1 ∨ 2 ^ i ≤ e) ∧ n ≤ gapP ls.length e i ∧ lifeAt ls i = lifeAt ls (rkI n) := by
  have h0 := g.pos
  have hm := g.most
  have n0 := hn.1
  by_cases c : rkI n < ls.length - 1
  · have p2 := pow2_pos (rkI n)
    have np : 0 < n := by
      by_cases z : n = 0
      · subst z
        rw [rkI_zero] at c
        omega
      · omega
    have d : (2 : Int) ^ rkI n ∣ n := Int.dvd_of_emod_eq_zero ((rk_dvd n0 (by omega)).mpr (Nat.le_refl _))
    have ge : (2 : Int) ^ rkI n ≤ n := Int.le_of_dvd np d
    refine ⟨rkI n, by omega, .inr (by omega), ?_, rfl⟩
    unfold gapP
    rw [if_neg (by omega)]
    obtain ⟨q, hq⟩ := d
    have odd : q % 2 = 1 := by
      have z : ¬ rkI n + 1 ≤ rkI n := by omega
      rw [← rk_dvd n0 (by omega : rkI n + 1 ≤ 1000)] at z
      have : ¬ (2 : Int) ^ rkI n * q % (2 ^ rkI n * 2) = 0 := by
        rw [← hq, ← Int.pow_succ]
        exact z
      rw [Int.mul_emod_mul_of_pos _ _ p2] at this
      by_cases c2 : q % 2 = 1
      · exact c2
      · exfalso
        rw [show q % 2 = 0 by omega, Int.mul_zero] at this
        exact this rfl
    have p3 : (0 : Int) < 2 * 2 ^ rkI n := by omega
    have dz : (n - 2 ^ rkI n) % (2 * 2 ^ rkI n) = 0 := by
      refine Int.emod_eq_zero_of_dvd ⟨q / 2, ?_⟩
      have e1 : q = 2 * (q / 2) + 1 := by omega
      have e2 : n = 2 ^ rkI n * (2 * (q / 2) + 1) := by rw [← e1]; exact hq
      have h1 : (2 : Int) ^ rkI n * (2 * (q / 2) + 1) = 2 * 2 ^ rkI n * (q / 2) + 2 ^ rkI n := by
        rw [Int.mul_add, Int.mul_one, ← Int.mul_assoc, Int.mul_comm (2 ^ rkI n) 2]
      omega
    have := mult_le p3 (show n - 2 ^ rkI n ≤ e - 2 ^ rkI n by omega) dz
    omega
  · refine ⟨ls.length - 1, by omega, .inl rfl, ?_, ?_⟩
    · unfold gapP
      rw [if_pos rfl]
      exact mult_le (pow2_pos _) hne ((rk_dvd n0 (by omega)).mpr (by omega))
    · exact (lifeAt_last h0 (by omega)).symm
theorem gapL_mem {ls : List (Option Int)} {t e : Int} {n : Nat} {x : Int} : x ∈ gapL ls t e n ↔ ∃ i, i < n ∧ gapF ls t e i = some x := by
  unfold gapL
  rw [List.mem_filterMap]
  constructor
  · rintro ⟨i, hi, h⟩
    exact ⟨i, List.mem_range.mp hi, h⟩
  · rintro ⟨i, hi, h⟩
    exact ⟨i, List.mem_range.mpr hi, h⟩
/-- the least one of the law's list is the distance -/
theorem gap_dist {ls : List (Option Int)} (g : Good ls) {t a : Int} (h0 : 0 ≤ a) (h1 : a ≤ t) :
    (gapL ls t (t - a) ls.length = [] ∧ distO ls t a = none) ∨ ∃ d, distO ls t a = some d ∧ d ∈ gapL ls t (t - a) ls.length ∧ ∀ x ∈ gapL ls t (t - a) ls.length, d ≤ x := by
  have ht : 0 ≤ t := by omega
  have he : 0 ≤ t - a := by omega
  have sound : ∀ x, x ∈ gapL ls t (t - a) ls.length → ∃ n, Kept ls t n ∧ n ≤ t - a ∧ x = t - a - n := by
    intro x hx
    obtain ⟨i, hi, hf⟩ := gapL_mem.mp hx
    unfold gapF at hf
    by_cases c : (i = ls.length - 1 ∨ 2 ^ i ≤ t - a) ∧ leO (some (t - gapP ls.length (t - a) i + 1)) (lifeAt ls i) = true
    · rw [if_pos c] at hf
      obtain ⟨b0, b1, b2⟩ := gapP_at g he hi c.1
      exact ⟨_, ⟨b0, by omega, by rw [b2]; exact c.2⟩, b1, (Option.some.inj hf).symm⟩
    · rw [if_neg c] at hf
      cases hf
  have full : ∀ n, Kept ls t n → n ≤ t - a → ∃ x, x ∈ gapL ls t (t - a) ls.length ∧ x ≤ t - a - n := by
    intro n hn hne
    obtain ⟨i, hi, hc, hp, hl⟩ := gapP_max g hn hne
    refine ⟨t - a - gapP ls.length (t - a) i, gapL_mem.mpr ⟨i, hi, ?_⟩, by omega⟩
    unfold gapF
    refine if_pos ⟨hc, ?_⟩
    rw [hl]
    exact leO_low hn.2.2 (by omega)
  obtain ⟨s1, s2⟩ := rpO_spec g ht (t - a)
  cases z : rpO ls t (t - a) with
  | none =>
    refine .inl ⟨?_, by unfold distO; rw [z]; rfl⟩
    cases e : gapL ls t (t - a) ls.length with
    | nil => rfl
    | cons x r =>
      obtain ⟨n, hn, hne, _⟩ := sound x (by rw [e]; exact List.mem_cons_self)
      exact absurd hne (s2 z n hn)
  | some p =>
    obtain ⟨k1, k2, k3⟩ := s1 p z
    refine .inr ⟨t - a - p, by unfold distO; rw [z]; rfl, ?_, fun x hx => ?_⟩
    · obtain ⟨x, hx, hxl⟩ := full p k1 k2
      obtain ⟨n, hn, hne, ex⟩ := sound x hx
      have := k3 n hn hne
      rw [show t - a - p = x by omega]
      exact hx
    · obtain ⟨n, hn, hne, ex⟩ := sound x hx
      have := k3 n hn hne
      omega
end Rk
namespace Rk
open PySem PySem.Spec PyProof.Rows L2

/-! ### lists of kept points -/
def keptB (ls : List (Option Int)) (t n : Int) : Bool := decide (n ≤ t) && leO (some (t - n + 1)) (lifeAt ls (rkI n))
theorem keptB_iff {ls : List (Option Int)} {t n : Int} (h : 0 ≤ n) : keptB ls t n = true ↔ Kept ls t n := by
  unfold keptB Kept
  rw [Bool.and_eq_true, decide_eq_true_iff]
  exact ⟨fun z => ⟨h, z⟩, fun z => z.2⟩
theorem filter_yes {α : Type} (p : α → Bool) {x : α} (h : p x = true) : List.filter p [x] = [x] := by simp [List.filter, h]
theorem filter_no {α : Type} (p : α → Bool) {x : α} (h : p x = false) : List.filter p [x] = [] := by simp [List.filter, h]
/-- the last one of those that are p -/
theorem filter_last (p : Nat → Bool) : ∀ n, ((((List.range n).filter p).getLast? = none ∧ ∀ k, k < n → p k = false) ∨ ∃ m, ((List.range n).filter p).getLast? = some m ∧ m < n ∧ p m = true ∧ ∀ k, k < n → p k = true → k ≤ m)
  | 0 => .inl ⟨rfl, fun k h => absurd h (by omega)⟩
  | n + 1 => by
    rw [List.range_succ, List.filter_append]
    by_cases h : p n = true
    · refine .inr ⟨n, ?_, by omega, h, fun k hk _ => by omega⟩
      simp [List.filter, h]
    · have hf : p n = false := by simpa using h
      have e : List.filter p [n] = [] := by simp [List.filter, hf]
      rw [e, List.append_nil]
      rcases filter_last p n with ⟨a, b⟩ | ⟨m, a, b, c, d⟩
      · refine .inl ⟨a, fun k hk => ?_⟩
        by_cases z : k = n
        · rw [z]; exact hf
        · exact b k (by omega)
      · refine .inr ⟨m, a, by omega, c, fun k hk hp => ?_⟩
        by_cases z : k = n
        · rw [z, hf] at hp
          cases hp
        · exact d k (by omega) hp
/-- all kept points up to now -/
def keptL (ls : List (Option Int)) (t : Nat) : List Nat := (List.range (t + 1)).filter fun n => keptB ls t ((n : Nat) : Int)
theorem old_last {ls : List (Option Int)} (g : Good ls) (t : Nat) (e : Int) (he : e ≤ t) : rpO ls t e = (((keptL ls t).filter fun n => decide (((n : Nat) : Int) ≤ e)).getLast?).map fun n => ((n : Nat) : Int) := by
  unfold keptL
  rw [List.filter_filter]
  rcases filter_last (fun n => (decide (((n : Nat) : Int) ≤ e) && keptB ls t ((n : Nat) : Int))) (t + 1) with ⟨a, b⟩ | ⟨m, a, b, c, d⟩
  · rw [a]
    refine rpO_none g (by omega) fun n hn hne => ?_
    obtain ⟨k, rfl⟩ := Int.eq_ofNat_of_zero_le hn.1
    have q := b k (by have := hn.2.1; omega)
    rw [decide_eq_true hne, Bool.true_and, (keptB_iff hn.1).mpr hn] at q
    cases q
  · rw [a]
    rw [Bool.and_eq_true, decide_eq_true_iff] at c
    refine rpO_some g (by omega) ((keptB_iff (Int.natCast_nonneg _)).mp c.2) c.1 fun n hn hne => ?_
    obtain ⟨k, rfl⟩ := Int.eq_ofNat_of_zero_le hn.1
    have q := d k (by have := hn.2.1; omega) (by rw [decide_eq_true hne, Bool.true_and]; exact (keptB_iff hn.1).mpr hn)
    show ((k : Nat) : Int) ≤ ((m : Nat) : Int)
    omega
/-! ### where nothing is kept nothing is counted -/
theorem mulN_zero {l h s : Int} (hs : 0 < s) (n : ∀ x, l ≤ x → x ≤ h → ¬ x % s = 0) : mulN l h s = 0 := by
  unfold mulN
  by_cases c : l > h
  · exact if_pos c
  · rw [if_neg c]
    have q := mult_self (m := h) hs
    have m1 := Int.emod_nonneg h (show s ≠ 0 by omega)
    have q2 : ¬ l ≤ h - h % s := fun z => n _ z (by omega) q
    have e1 := Int.mul_ediv_add_emod h s
    have e2 := Int.mul_ediv_add_emod (l - 1) s
    have e3 := Int.emod_nonneg (l - 1) (show s ≠ 0 by omega)
    have e4 := Int.emod_lt_of_pos (l - 1) hs
    have d1 : h / s ≤ (l - 1) / s := by
      rw [Int.le_ediv_iff_mul_le hs, Int.mul_comm]
      omega
    have d2 := Int.ediv_le_ediv hs (show l - 1 ≤ h by omega)
    omega
theorem cntB_zero {low high t : Int} : ∀ (ls : List (Option Int)) (i : Nat) (hi : Int), (∀ n, low ≤ n → n ≤ high → ¬ inB t i hi ls n) → cntB low high t i hi ls = 0
  | [], _, _, _ => rfl
  | l :: r, i, hi, h => by
    have e1 : mulN (max low (bandLo t l)) (min high hi) (2 ^ i) = 0 := mulN_zero (pow2_pos i) fun x h1 h2 z => h x (by omega) (by omega) (.inl ⟨by omega, by omega, z⟩)
    have e2 := cntB_zero r (i + 1) (bandLo t l - 1) fun n h1 h2 z => h n h1 h2 (.inr z)
    show mulN (max low (bandLo t l)) (min high hi) (2 ^ i) + cntB low high t (i + 1) (bandLo t l - 1) r = 0
    rw [e1, e2]
    rfl
theorem cnt_none {ls : List (Option Int)} (g : Good ls) {t low high : Int} (ht : 0 ≤ t) (h0 : 0 ≤ low) (h : ∀ n, low ≤ n → n ≤ high → ¬ Kept ls t n) : cntB low high t 0 t (short ls) = 0 := by
  have g2 := good_short g
  refine cntB_zero (short ls) 0 t fun n h1 h2 z => ?_
  have n1 := inB_le ht (short ls) 0 t n (fun l hl => (bandLo_le ht (fun v e => (g2.bd l (List.mem_of_mem_head? hl) v e).1)).2) g2.asc z
  exact h n h1 h2 ((kept_short g.pos).mp ((inB_iff g2 ht (by omega) n1).mp z))
end Rk
namespace Rk
open PySem PySem.Spec PyProof.Rows L2

/-! ### lists that the heap holds, one by one -/
def LAt (H : Hp) : List V → List (List V) → Prop
  | [], [] => True
  | x :: xs, y :: ys => (∃ t, x = .ref t ∧ H t = some (.lst y)) ∧ LAt H xs ys
  | _, _ => False
theorem LAt.length {H : Hp} : ∀ {xs : List V} {ps : List (List V)}, LAt H xs ps → xs.length = ps.length
  | [], [], _ => rfl
  | _ :: _, _ :: _, h => congrArg (· + 1) (LAt.length h.2)
  | [], _ :: _, h => h.elim
  | _ :: _, [], h => h.elim
theorem LAt.same {H H' : Hp} (s : Same H H') : ∀ {xs : List V} {ps : List (List V)}, LAt H xs ps → LAt H' xs ps
  | [], [], _ => trivial
  | _ :: _, _ :: _, ⟨⟨t, e, h⟩, r⟩ => ⟨⟨t, e, s _ _ h⟩, LAt.same s r⟩
  | [], _ :: _, h => h.elim
  | _ :: _, [], h => h.elim
/-- as same, but for what stands at one place that none of them is -/
theorem LAt.but {H H' : Hp} {D : Addr} (hD : ∀ y, H D = some (.lst y) → False) (s : ∀ b o, H b = some o → b ≠ D → H' b = some o) : ∀ {xs : List V} {ps : List (List V)}, LAt H xs ps → LAt H' xs ps
  | [], [], _ => trivial
  | _ :: _, y :: _, ⟨⟨t, e, h⟩, r⟩ => ⟨⟨t, e, s _ _ h (fun z => hD y (z ▸ h))⟩, LAt.but hD s r⟩
  | [], _ :: _, h => h.elim
  | _ :: _, [], h => h.elim
theorem LAt.snoc {H : Hp} {t : Addr} {p : List V} (e : H t = some (.lst p)) : ∀ {xs : List V} {ps : List (List V)}, LAt H xs ps → LAt H (xs ++ [.ref t]) (ps ++ [p])
  | [], [], _ => ⟨⟨t, rfl, e⟩, trivial⟩
  | _ :: _, _ :: _, ⟨a, r⟩ => ⟨a, LAt.snoc e r⟩
  | [], _ :: _, h => h.elim
  | _ :: _, [], h => h.elim
theorem LAt.get {H : Hp} : ∀ {xs : List V} {ps : List (List V)} {i : Nat} {p : List V}, LAt H xs ps → ps[i]? = some p → ∃ t, xs[i]? = some (.ref t) ∧ H t = some (.lst p)
  | [], [], i, p, _, e => by simp at e
  | x :: _, q :: _, 0, p, ⟨⟨t, a, h⟩, r⟩, e => by
    have e1 : q = p := by simpa using e
    exact ⟨t, by rw [a]; rfl, by rw [← e1]; exact h⟩
  | _ :: xs, _ :: ps, i + 1, p, ⟨_, r⟩, e => LAt.get (xs := xs) (ps := ps) (i := i) r (by simpa using e)
  | [], _ :: _, _, _, h, _ => h.elim
  | _ :: _, [], _, _, h, _ => h.elim
theorem LAt.upd {H : Hp} {D : Addr} {o : HO} : ∀ {xs : List V} {ps : List (List V)}, (∀ x ∈ xs, x ≠ V.ref D) → LAt H xs ps → LAt (L2.upd H D o) xs ps
  | [], [], _, _ => trivial
  | x :: _, _ :: _, n, ⟨⟨t, e, h⟩, r⟩ => ⟨⟨t, e, by
      rw [upd_ne (fun z => n x List.mem_cons_self (by rw [e, z]))]
      exact h⟩, LAt.upd (fun y hy => n y (List.mem_cons_of_mem _ hy)) r⟩
  | [], _ :: _, _, h => h.elim
  | _ :: _, [], _, h => h.elim
/-! ### no distance is greater than the worst one -/
theorem dist_le {ls : List (Option Int)} (g : Good ls) {a t : Int} (ha : 0 ≤ a) (ht : a ≤ t) {j : Nat} (h : idx 0 ls a = some j) : ∃ d, distO ls t a = some d ∧ 0 ≤ d ∧ d ≤ 2 ^ j - 1 ∧ d ≤ t - a := by
  obtain ⟨h1, h2, h3⟩ := idx_some h
  have hm := g.most
  have p2 := pow2_pos j
  have he : 0 ≤ t - a := by omega
  have m0 := Int.emod_nonneg (t - a) (show (2 : Int) ^ j ≠ 0 by omega)
  have m1 := Int.emod_lt_of_pos (t - a) p2
  have m2 := mult_self (m := t - a) p2
  have m3 := emod_le he p2
  have kp : Kept ls t (t - a - (t - a) % 2 ^ j) := by
    refine ⟨by omega, by omega, ?_⟩
    have r := (rk_dvd (by omega : 0 ≤ t - a - (t - a) % 2 ^ j) (by omega : j ≤ 1000)).mp m2
    exact leO_low (leO_trans h2 (lifeAt_le g r)) (by omega)
  obtain ⟨s1, s2⟩ := rpO_spec g (by omega : 0 ≤ t) (t - a)
  cases e : rpO ls t (t - a) with
  | none => exact absurd (show t - a - (t - a) % 2 ^ j ≤ t - a by omega) (s2 e _ kp)
  | some p =>
    obtain ⟨k1, k2, k3⟩ := s1 p e
    have := k3 _ kp (by omega)
    have := k1.1
    exact ⟨t - a - p, by unfold distO; rw [e]; rfl, by omega, by omega, by omega⟩
/-- all gaps of an age from its own tick on -/
def gapsL (ls : List (Option Int)) (a n : Nat) : List (Option Int) := (List.range n).map fun i : Nat => distO ls ((a : Int) + (i : Int)) (a : Int)
theorem gapsL_at {ls : List (Option Int)} {a n i : Nat} (h : i < n) : (gapsL ls a n)[i]? = some (distO ls ((a : Int) + (i : Int)) (a : Int)) := by
  unfold gapsL
  rw [List.getElem?_map, List.getElem?_range h]
  rfl
theorem gapsL_len (ls : List (Option Int)) (a n : Nat) : (gapsL ls a n).length = n := by
  unfold gapsL
  rw [List.length_map, List.length_range]
/-- without a worst distance some gap is None, at the tick told -/
theorem gaps_none {ls : List (Option Int)} (g : Good ls) {a n : Nat} (h : idx 0 ls (a : Int) = none) (hn : 2 ^ ((short ls).length - 1) ≤ n) : none ∈ gapsL ls a n := by
  have g2 := good_short g
  have p2 : 0 < 2 ^ ((short ls).length - 1) := Nat.pow_pos (by decide)
  have e := dist_none g2 (by omega : (0 : Int) ≤ (a : Int)) (by
    have e := due_short ls (a : Int)
    rw [due_idx, due_idx, h] at e
    cases z : idx 0 (short ls) (a : Int) with
    | none => rfl
    | some j => rw [z] at e; cases e)
  have c : ((2 ^ ((short ls).length - 1) : Nat) : Int) = (2 : Int) ^ ((short ls).length - 1) := by rw [Int.natCast_pow]; rfl
  refine List.mem_map.mpr ⟨2 ^ ((short ls).length - 1) - 1, List.mem_range.mpr (by omega), ?_⟩
  rw [← distO_short g (by omega)]
  rw [show (a : Int) + ((2 ^ ((short ls).length - 1) - 1 : Nat) : Int) = (a : Int) + 2 ^ ((short ls).length - 1) - 1 by omega]
  exact e
/-- the gaps with a worst distance: ints, the greatest first at its own place -/
theorem gaps_some {ls : List (Option Int)} (g : Good ls) {a n j : Nat} (h : idx 0 ls (a : Int) = some j) (hn : 2 ^ j ≤ n) :
    ∃ ds : List Int, gapsL ls a n = ds.map some ∧ ds.length = n ∧ ds[2 ^ j - 1]? = some (2 ^ j - 1) ∧ (∀ d ∈ ds, d ≤ 2 ^ j - 1) ∧ (∀ (i : Nat) d, ds[i]? = some d → d ≤ i ∧ 0 ≤ d) := by
  have p2 : 0 < 2 ^ j := Nat.pow_pos (by decide)
  have c : ((2 ^ j : Nat) : Int) = (2 : Int) ^ j := by rw [Int.natCast_pow]; rfl
  have one : ∀ i : Nat, ∃ d, distO ls ((a : Int) + (i : Int)) (a : Int) = some d ∧ 0 ≤ d ∧ d ≤ 2 ^ j - 1 ∧ d ≤ (i : Int) := fun i => by
    obtain ⟨d, d1, d2, d3, d4⟩ := dist_le g (by omega : (0 : Int) ≤ (a : Int)) (show (a : Int) ≤ (a : Int) + (i : Int) by omega) h
    exact ⟨d, d1, d2, d3, by omega⟩
  let f : Nat → Int := fun i => (distO ls ((a : Int) + (i : Int)) (a : Int)).getD 0
  have hf : ∀ i : Nat, distO ls ((a : Int) + (i : Int)) (a : Int) = some (f i) := fun i => by
    obtain ⟨d, d1, _⟩ := one i
    show _ = some ((distO ls ((a : Int) + (i : Int)) (a : Int)).getD 0)
    rw [d1]
    rfl
  have fb : ∀ i : Nat, 0 ≤ f i ∧ f i ≤ 2 ^ j - 1 ∧ f i ≤ (i : Int) := fun i => by
    obtain ⟨d, d1, d2, d3, d4⟩ := one i
    have e : f i = d := by
      have := hf i
      rw [d1] at this
      exact (Option.some.inj this).symm
    rw [e]
    exact ⟨d2, d3, d4⟩
  refine ⟨(List.range n).map f, ?_, by rw [List.length_map, List.length_range], ?_, ?_, ?_⟩
  · unfold gapsL
    rw [List.map_map]
    exact List.map_congr_left fun i _ => hf i
  · rw [List.getElem?_map, List.getElem?_range (by omega)]
    show some (f (2 ^ j - 1)) = _
    have e := dist_at g (by omega : (0 : Int) ≤ (a : Int)) h
    have q := hf (2 ^ j - 1)
    rw [show (a : Int) + ((2 ^ j - 1 : Nat) : Int) = (a : Int) + 2 ^ j - 1 by omega, e] at q
    exact congrArg some (Option.some.inj q).symm
  · intro d hd
    obtain ⟨i, _, rfl⟩ := List.mem_map.mp hd
    exact (fb i).2.1
  · intro i d hd
    rw [List.getElem?_map] at hd
    cases e : (List.range n)[i]? with
    | none => rw [e] at hd; cases hd
    | some k =>
      rw [e] at hd
      have hk := (List.getElem?_eq_some_iff.mp e)
      obtain ⟨hk1, hk2⟩ := hk
      rw [List.getElem_range] at hk2
      have e2 : f k = d := Option.some.inj hd
      rw [← e2, ← hk2]
      exact ⟨(fb i).2.2, (fb i).1⟩
theorem gapO_inj {x y : Option Nat} (h : gapO x = gapO y) : x = y := by
  cases x with
  | none => cases y with
    | none => rfl
    | some j => cases h
  | some i => cases y with
    | none => cases h
    | some j =>
      have e : (2 : Int) ^ i - 1 = 2 ^ j - 1 := Option.some.inj h
      have e2 : (2 : Int) ^ i = 2 ^ j := by omega
      have e3 : (2 : Nat) ^ i = 2 ^ j := by
        have a1 := pow2_natAbs i
        have a2 := pow2_natAbs j
        rw [← a1, ← a2, e2]
      have e4 : i = j := by
        rcases Nat.lt_trichotomy i j with h | h | h
        · have := Nat.pow_lt_pow_right (a := 2) (by decide) h
          omega
        · exact h
        · have := Nat.pow_lt_pow_right (a := 2) (by decide) h
          omega
      rw [e4]
theorem idx_short (ls : List (Option Int)) (a : Int) : idx 0 (short ls) a = idx 0 ls a := by
  have e := due_short ls a
  rw [due_idx, due_idx] at e
  exact gapO_inj e
end Rk
namespace Rk
open PySem PySem.Spec PyProof.Rows L2

/-! ### wishes -/
def wV (p : Int × Int) : List V := [.int p.1, .int p.2]
structure WOk (ws : List (Int × Int)) : Prop where
  bd : ∀ p ∈ ws, 0 ≤ p.1 ∧ p.1 ≤ 10 ^ 18 ∧ 0 ≤ p.2 ∧ p.2 ≤ 10 ^ 18
  asc : ws.Pairwise fun p q => p.1 < q.1 ∧ p.2 < q.2
  pos : 0 < ws.length
  most : ws.length ≤ 12
def okAt (ls : List (Option Int)) (p : Int × Int) : Bool := leO (due 0 ls p.1) (some p.2)
def stepAt (ws : List (Int × Int)) (a : Int) : Option (Int × Int) := ws.find? fun p => decide (a ≤ p.1)
/-! ### how far a distance reaches -/
def rch (w : Int) : List (Option Int × Int) → Option Int → Option Int
  | [], r => r
  | p :: t, r => rch w t (if p.2 ≤ w then p.1 else r)
theorem prom_ge : ∀ (ls : List (Option Int)) (i : Nat) (r : Option Int), ∀ p ∈ prom i r ls, 2 ^ i - 1 ≤ p.2
  | [], _, _, p, hp => nomatch hp
  | l :: t, i, r, p, hp => by
    have h' : p ∈ (if leO (offO i l) r = true then prom (i + 1) r t else (offO i l, 2 ^ i - 1) :: prom (i + 1) (offO i l) t) := hp
    have p2 : (2 : Int) ^ (i + 1) = 2 ^ i * 2 := Int.pow_succ _ _
    have p0 := pow2_pos i
    by_cases c : leO (offO i l) r = true
    · rw [if_pos c] at h'
      have := prom_ge t (i + 1) r p h'
      omega
    · rw [if_neg c] at h'
      rcases List.mem_cons.mp h' with e | h''
      · rw [e]
        show (2 : Int) ^ i - 1 ≤ 2 ^ i - 1
        omega
      · have := prom_ge t (i + 1) _ p h''
        omega
theorem rch_stay {w : Int} : ∀ (ps : List (Option Int × Int)) (r : Option Int), (∀ p ∈ ps, w < p.2) → rch w ps r = r
  | [], _, _ => rfl
  | p :: t, r, h => by
    show rch w t (if p.2 ≤ w then p.1 else r) = r
    rw [if_neg (by have := h p List.mem_cons_self; omega)]
    exact rch_stay t r fun q hq => h q (List.mem_cons_of_mem _ hq)
theorem due_far {w a : Int} {ls : List (Option Int)} {i : Nat} (h : w < 2 ^ i - 1) : leO (due i ls a) (some w) = false := by
  cases e : due i ls a with
  | none => rfl
  | some g =>
    have := prom_due.due_ge ls i a g e
    exact decide_eq_false (by omega)
theorem off_le (a : Int) (i : Nat) (l : Option Int) : leO (some (a + 2 ^ i)) l = leO (some a) (offO i l) := by
  cases l with
  | none => rfl
  | some x =>
    show decide (a + 2 ^ i ≤ x) = decide (a ≤ x - 2 ^ i)
    rw [decide_eq_decide]
    omega
theorem leO_not {x y : Option Int} (h : ¬ leO x y = true) : leO y x = true := by
  cases x with
  | none => cases y <;> rfl
  | some a =>
    cases y with
    | none => exact absurd rfl h
    | some b =>
      have : ¬ a ≤ b := fun z => h (decide_eq_true z)
      exact decide_eq_true (by omega)
theorem rch_due {w a : Int} : ∀ (ls : List (Option Int)) (i : Nat) (r : Option Int), 2 ^ i - 1 ≤ w → leO (some a) (rch w (prom i r ls) r) = (leO (some a) r || leO (due i ls a) (some w))
  | [], _, r, _ => by
    show leO (some a) r = (leO (some a) r || false)
    rw [Bool.or_false]
  | l :: t, i, r, h => by
    have ed : due i (l :: t) a = if leO (some a) (offO i l) = true then some (2 ^ i - 1) else due (i + 1) t a := by
      show (if leO (some (a + 2 ^ i)) l = true then some (2 ^ i - 1) else due (i + 1) t a) = _
      rw [off_le]
    have here : leO (some (2 ^ i - 1 : Int)) (some w) = true := decide_eq_true h
    -- what follows, whatever the reach
    have next : ∀ r', leO (some a) (rch w (prom (i + 1) r' t) r') = (leO (some a) r' || leO (due (i + 1) t a) (some w)) := fun r' => by
      by_cases c : (2 : Int) ^ (i + 1) - 1 ≤ w
      · exact rch_due t (i + 1) r' c
      · rw [rch_stay _ _ (fun p hp => by have := prom_ge t (i + 1) r' p hp; omega), due_far (by omega), Bool.or_false]
    rw [ed]
    show leO (some a) (rch w (if leO (offO i l) r = true then prom (i + 1) r t else (offO i l, 2 ^ i - 1) :: prom (i + 1) (offO i l) t) r) = _
    by_cases c : leO (offO i l) r = true
    · rw [if_pos c, next r]
      by_cases d : leO (some a) (offO i l) = true
      · rw [if_pos d, leO_trans d c, Bool.true_or, Bool.true_or]
      · rw [if_neg d]
    · rw [if_neg c]
      show leO (some a) (rch w (prom (i + 1) (offO i l) t) (if (2 : Int) ^ i - 1 ≤ w then offO i l else r)) = _
      rw [if_pos h, next (offO i l)]
      by_cases d : leO (some a) (offO i l) = true
      · rw [if_pos d, d, here, Bool.true_or, Bool.or_true]
      · rw [if_neg d]
        have df : leO (some a) (offO i l) = false := by
          cases z : leO (some a) (offO i l) with
          | true => exact absurd z d
          | false => rfl
        have rf : leO (some a) r = false := by
          cases z : leO (some a) r with
          | true => exact absurd (leO_trans z (leO_not c)) d
          | false => rfl
        rw [df, rf]
def reachO (ls : List (Option Int)) (w : Int) : Option Int := rch w (prom 0 (some (-1)) ls) (some (-1))
theorem reach_ok {ls : List (Option Int)} {w a : Int} (hw : 0 ≤ w) (ha : 0 ≤ a) : leO (due 0 ls a) (some w) = leO (some a) (reachO ls w) := by
  unfold reachO
  rw [rch_due ls 0 (some (-1)) (by simpa using hw)]
  have : leO (some a) (some (-1)) = false := decide_eq_false (by omega)
  rw [this, Bool.false_or]
theorem reach_low {ls : List (Option Int)} {w : Int} (hw : 0 ≤ w) : leO (some (-1)) (reachO ls w) = true := by
  unfold reachO
  rw [rch_due ls 0 (some (-1)) (by simpa using hw)]
  have : leO (some (-1)) (some (-1)) = true := rfl
  rw [this, Bool.true_or]
/-! ### the first age that is broken -/
def fbL (ls : List (Option Int)) : List (Int × Int) → Option Int
  | [] => none
  | p :: t => if leO ((reachO ls p.2).map (· + 1)) (some p.1) = true then (reachO ls p.2).map (· + 1) else fbL ls t
theorem fb_head {ls : List (Option Int)} {p : Int × Int} : leO ((reachO ls p.2).map (· + 1)) (some p.1) = true ↔ leO (some p.1) (reachO ls p.2) = false := by
  cases e : reachO ls p.2 with
  | none => exact ⟨fun z => (by cases z), fun z => (by cases z)⟩
  | some r =>
    constructor
    · intro z
      have z' : r + 1 ≤ p.1 := of_decide_eq_true z
      exact decide_eq_false (by omega)
    · intro z
      have z' : ¬ p.1 ≤ r := of_decide_eq_false z
      exact decide_eq_true (show r + 1 ≤ p.1 by omega)
theorem fb_none {ls : List (Option Int)} : ∀ ws : List (Int × Int), (∀ p ∈ ws, 0 ≤ p.1 ∧ 0 ≤ p.2) → (fbL ls ws = none ↔ ws.all (okAt ls) = true)
  | [], _ => ⟨fun _ => rfl, fun _ => rfl⟩
  | p :: t, h => by
    have ih := fb_none (ls := ls) t fun q hq => h q (List.mem_cons_of_mem _ hq)
    have hp := h p List.mem_cons_self
    have eo : okAt ls p = leO (some p.1) (reachO ls p.2) := reach_ok hp.2 hp.1
    show (if leO ((reachO ls p.2).map (· + 1)) (some p.1) = true then (reachO ls p.2).map (· + 1) else fbL ls t) = none ↔ _
    rw [List.all_cons, eo]
    by_cases c : leO ((reachO ls p.2).map (· + 1)) (some p.1) = true
    · rw [if_pos c, fb_head.mp c, Bool.false_and]
      refine ⟨fun z => ?_, fun z => by cases z⟩
      rw [z] at c
      cases c
    · have e : leO (some p.1) (reachO ls p.2) = true := by
        cases z : leO (some p.1) (reachO ls p.2) with
        | true => rfl
        | false => exact absurd (fb_head.mpr z) c
      rw [if_neg c, e, Bool.true_and]
      exact ih
theorem fb_some {ls : List (Option Int)} : ∀ (ws : List (Int × Int)) (b : Int), (∀ p ∈ ws, 0 ≤ p.1 ∧ 0 ≤ p.2) → (ws.Pairwise fun p q => p.1 < q.1 ∧ p.2 < q.2) → fbL ls ws = some b →
    0 ≤ b ∧ (∃ q, stepAt ws b = some q ∧ b ≤ q.1 ∧ leO (due 0 ls b) (some q.2) = false) ∧ ∀ a, 0 ≤ a → a < b → ∀ q, stepAt ws a = some q → leO (due 0 ls a) (some q.2) = true
  | [], _, _, _, h => by cases h
  | p :: t, b, h, asc, hb => by
    have hp := h p List.mem_cons_self
    have hb' : (if leO ((reachO ls p.2).map (· + 1)) (some p.1) = true then (reachO ls p.2).map (· + 1) else fbL ls t) = some b := hb
    have low := reach_low (ls := ls) hp.2
    have st : ∀ a, stepAt (p :: t) a = if a ≤ p.1 then some p else stepAt t a := fun a => by
      unfold stepAt
      rw [List.find?_cons]
      by_cases c : a ≤ p.1
      · rw [if_pos c]
        simp [c]
      · rw [if_neg c]
        simp [c]
    by_cases c : leO ((reachO ls p.2).map (· + 1)) (some p.1) = true
    · rw [if_pos c] at hb'
      obtain ⟨r, hr, rfl⟩ : ∃ r, reachO ls p.2 = some r ∧ b = r + 1 := by
        cases z : reachO ls p.2 with
        | none => rw [z] at hb'; cases hb'
        | some r =>
          rw [z] at hb'
          exact ⟨r, rfl, (Option.some.inj hb').symm⟩
      rw [hr] at c low
      have c' : r + 1 ≤ p.1 := of_decide_eq_true c
      have l' : -1 ≤ r := of_decide_eq_true low
      refine ⟨by omega, ⟨p, by rw [st, if_pos c'], c', ?_⟩, fun a a0 a1 q hq => ?_⟩
      · rw [reach_ok hp.2 (by omega), hr]
        exact decide_eq_false (by omega)
      · rw [st, if_pos (by omega)] at hq
        obtain rfl : p = q := Option.some.inj hq
        rw [reach_ok hp.2 a0, hr]
        exact decide_eq_true (by omega)
    · rw [if_neg c] at hb'
      have e : leO (some p.1) (reachO ls p.2) = true := by
        cases z : leO (some p.1) (reachO ls p.2) with
        | true => rfl
        | false => exact absurd (fb_head.mpr z) c
      have asc2 := List.pairwise_cons.mp asc
      obtain ⟨i0, ⟨q, i1, i2, i3⟩, i4⟩ := fb_some t b (fun q hq => h q (List.mem_cons_of_mem _ hq)) asc2.2 hb'
      have qt : q ∈ t := List.mem_of_find?_eq_some i1
      have hq := h q (List.mem_cons_of_mem _ qt)
      have pb : p.1 < b := by
        by_cases z : p.1 < b
        · exact z
        · exfalso
          have k1 : leO (due 0 ls p.1) (some p.2) = true := by rw [reach_ok hp.2 hp.1]; exact e
          have k2 : leO (due 0 ls p.1) (some q.2) = true := leO_trans k1 (show leO (some p.2) (some q.2) = true from decide_eq_true (by have := (asc2.1 q qt).2; omega))
          rw [reach_ok hq.2 hp.1] at k2
          rw [reach_ok hq.2 i0] at i3
          rw [leO_low k2 (by omega)] at i3
          cases i3
      refine ⟨i0, ⟨q, by rw [st, if_neg (by omega)]; exact i1, i2, i3⟩, fun a a0 a1 x hx => ?_⟩
      rw [st] at hx
      by_cases z : a ≤ p.1
      · rw [if_pos z] at hx
        obtain rfl : p = x := Option.some.inj hx
        rw [reach_ok hp.2 a0]
        exact leO_low e z
      · rw [if_neg z] at hx
        exact i4 a a0 a1 x hx
end Rk
namespace Rk
open PySem PySem.Spec PyProof.Rows L2

/-! ### rules by their lives at each rank -/
theorem short_rows_at {ls : List (Option Int)} (h0 : 0 < ls.length) {N : Nat} (h : ls.length ≤ N) : short (rows (lifeAt ls) N) = short ls := by
  rw [short_any (lifeAt ls) h0 (lifeAt_const h0) h, rows_lifeAt]
theorem short_ext {xs ys : List (Option Int)} (h0 : 0 < xs.length) (h1 : 0 < ys.length) (h : ∀ i, lifeAt xs i = lifeAt ys i) : short xs = short ys := by
  rw [← short_rows_at h0 (Nat.le_max_left xs.length ys.length), ← short_rows_at h1 (Nat.le_max_right xs.length ys.length), funext h]
theorem short_inj {xs ys : List (Option Int)} (h0 : 0 < xs.length) (h1 : 0 < ys.length) (h : short xs = short ys) (i : Nat) : lifeAt xs i = lifeAt ys i := by
  rw [← lifeAt_short h0 i, h, lifeAt_short h1 i]
theorem lifeAt_rows {F : Nat → Option Int} {n : Nat} (h0 : 0 < n) (h : ∀ k, n ≤ k → F k = F (n - 1)) (i : Nat) : lifeAt (rows F n) i = F i := by
  by_cases hi : i < n
  · exact lifeAt_lt (rows_get hi)
  · rw [lifeAt_ge (x := F (n - 1)) (by rw [rows_length]; omega) (by rw [List.getLast?_eq_getElem?, rows_length]; exact rows_get (by omega)), h i (by omega)]
theorem lifeAt_map {ls : List (Option Int)} (f : Option Int → Option Int) (h0 : 0 < ls.length) (i : Nat) : lifeAt (ls.map f) i = f (lifeAt ls i) := by
  by_cases hi : i < ls.length
  · have e := List.getElem?_eq_getElem hi
    rw [lifeAt_lt e, lifeAt_lt (x := f ls[i]) (by rw [List.getElem?_map, e]; rfl)]
  · rw [lifeAt_const h0 i (by omega), lifeAt_const (ls := ls.map f) (by rw [List.length_map]; exact h0) i (by rw [List.length_map]; omega), List.length_map]
    have e := List.getElem?_eq_getElem (show ls.length - 1 < ls.length by omega)
    rw [lifeAt_lt e, lifeAt_lt (x := f ls[ls.length - 1]) (by rw [List.getElem?_map, e]; rfl)]
/-- two rules at each rank -/
def twoL (g : Option Int → Option Int → Option Int) (xs ys : List (Option Int)) : List (Option Int) := rows (fun i => g (lifeAt xs i) (lifeAt ys i)) (max xs.length ys.length)
theorem twoL_len (g : Option Int → Option Int → Option Int) (xs ys : List (Option Int)) : (twoL g xs ys).length = max xs.length ys.length := rows_length _ _
theorem lifeAt_two {g : Option Int → Option Int → Option Int} {xs ys : List (Option Int)} (h0 : 0 < xs.length) (h1 : 0 < ys.length) (i : Nat) : lifeAt (twoL g xs ys) i = g (lifeAt xs i) (lifeAt ys i) := by
  unfold twoL
  refine lifeAt_rows (by omega) (fun k hk => ?_) i
  rw [lifeAt_far h0 (Nat.le_max_left xs.length ys.length) hk, lifeAt_far h1 (Nat.le_max_right xs.length ys.length) hk]
/-- the rule so many ticks behind a change -/
def chgL (old new : List (Option Int)) (u : Int) : List (Option Int) := rows (fun i => minO (lifeAt new i) (addO u (lifeAt old i))) (max old.length new.length)
theorem chgL_len (old new : List (Option Int)) (u : Int) : (chgL old new u).length = max old.length new.length := rows_length _ _
theorem lifeAt_chg {old new : List (Option Int)} (h0 : 0 < old.length) (h1 : 0 < new.length) (u : Int) (i : Nat) : lifeAt (chgL old new u) i = minO (lifeAt new i) (addO u (lifeAt old i)) := by
  unfold chgL
  refine lifeAt_rows (by omega) (fun k hk => ?_) i
  rw [lifeAt_far h0 (Nat.le_max_left old.length new.length) hk, lifeAt_far h1 (Nat.le_max_right old.length new.length) hk]
theorem chg_ops {old new : List (Option Int)} (h0 : 0 < old.length) (h1 : 0 < new.length) (u : Int) :
    short (rows (fun i => minO (lifeAt new i) (lifeAt (short (old.map (addO u))) i)) (max new.length (short (old.map (addO u))).length)) = short (chgL old new u) := by
  have p0 : 0 < (old.map (addO u)).length := by rw [List.length_map]; exact h0
  have p1 := short_len_pos p0
  refine short_ext (by rw [rows_length]; omega) (by rw [chgL_len]; omega) (fun i => ?_)
  rw [show rows (fun i => minO (lifeAt new i) (lifeAt (short (old.map (addO u))) i)) (max new.length (short (old.map (addO u))).length) = twoL minO new (short (old.map (addO u))) from rfl, lifeAt_two h1 p1, lifeAt_short p0, lifeAt_map _ h0, lifeAt_chg h0 h1]
theorem chg_short {old new : List (Option Int)} (h0 : 0 < old.length) (h1 : 0 < new.length) (u : Int) : short (chgL (short old) (short new) u) = short (chgL old new u) := by
  have p0 := short_len_pos h0
  have p1 := short_len_pos h1
  refine short_ext (by rw [chgL_len]; omega) (by rw [chgL_len]; omega) (fun i => ?_)
  rw [lifeAt_chg p0 p1, lifeAt_chg h0 h1, lifeAt_short h0, lifeAt_short h1]
theorem minO_le {x y : Option Int} : leO (minO x y) x = true := by
  unfold minO
  by_cases h : leO x y = true
  · rw [if_pos h]; exact leO_refl x
  · rw [if_neg h]; exact leO_not h
theorem minO_le2 {x y : Option Int} : leO (minO x y) y = true := by
  unfold minO
  by_cases h : leO x y = true
  · rw [if_pos h]; exact h
  · rw [if_neg h]; exact leO_refl y
theorem minO_eq {x y : Option Int} (h : leO x y = true) : minO x y = x := by
  unfold minO
  rw [if_pos h]
theorem leO_add {x : Option Int} {u : Int} (h : 0 ≤ u) : leO x (addO u x) = true := by
  cases x with
  | none => rfl
  | some a => exact decide_eq_true (show a ≤ a + u by omega)
theorem addO_0 (x : Option Int) : addO 0 x = x := by
  cases x with
  | none => rfl
  | some a =>
    show some (a + 0) = some a
    rw [Int.add_zero]
theorem chg_le {old new : List (Option Int)} (h0 : 0 < old.length) (h1 : 0 < new.length) (u : Int) (i : Nat) : leO (lifeAt (chgL old new u) i) (lifeAt new i) = true := by
  rw [lifeAt_chg h0 h1]
  exact minO_le
/-- bounds of lives that were reckoned -/
def Bdn (n : Nat) (x : Option Int) : Prop := ∀ i, x = some i → 0 ≤ i ∧ i ≤ ((n : Nat) : Int) * 10 ^ 18
theorem Bdn.mono {n m : Nat} {x : Option Int} (b : Bdn n x) (h : n ≤ m) : Bdn m x := fun i e => by
  have q := b i e
  refine ⟨q.1, Int.le_trans q.2 (Int.mul_le_mul_of_nonneg_right (by omega) (by decide))⟩
theorem Bdn.small {n : Nat} (hn : n ≤ 10 ^ 20) {x : Option Int} (b : Bdn n x) : ∀ i, x = some i → i.natAbs < 2 ^ 600 := fun i e => by
  have q := b i e
  have h : ((n : Nat) : Int) * 10 ^ 18 ≤ (10 ^ 20 : Int) * 10 ^ 18 := Int.mul_le_mul_of_nonneg_right (by omega) (by decide)
  exact Nat.lt_of_le_of_lt (show i.natAbs ≤ 10 ^ 38 by omega) (by decide)
theorem Good.bdn {ls : List (Option Int)} (g : Good ls) (i : Nat) : Bdn 1 (lifeAt ls i) := fun v e => by
  have := g.at i v e
  omega
theorem bdn_min {n : Nat} {x y : Option Int} (a : Bdn n x) (b : Bdn n y) : Bdn n (minO x y) := by
  unfold minO
  by_cases h : leO x y = true
  · rw [if_pos h]; exact a
  · rw [if_neg h]; exact b
theorem bdn_max {n : Nat} {x y : Option Int} (a : Bdn n x) (b : Bdn n y) : Bdn n (maxO x y) := by
  unfold maxO
  by_cases h : leO x y = true
  · rw [if_pos h]; exact b
  · rw [if_neg h]; exact a
theorem bdn_add {n : Nat} {x : Option Int} {u : Int} (b : Bdn n x) (h0 : 0 ≤ u) (h1 : u ≤ 10 ^ 18) : Bdn (n + 1) (addO u x) := fun i e => by
  cases x with
  | none => cases e
  | some v =>
    have q := b v rfl
    have e' : v + u = i := Option.some.inj e
    omega
theorem bdn_chg {n : Nat} {old new : List (Option Int)} (h0 : 0 < old.length) (h1 : 0 < new.length) {u : Int} (u0 : 0 ≤ u) (u1 : u ≤ 10 ^ 18) (a : ∀ i, Bdn n (lifeAt old i)) (b : ∀ i, Bdn (n + 1) (lifeAt new i)) (i : Nat) : Bdn (n + 1) (lifeAt (chgL old new u) i) := by
  rw [lifeAt_chg h0 h1]
  exact bdn_min (b i) (bdn_add (a i) u0 u1)
theorem mem_at {ls : List (Option Int)} {x : Option Int} (h : x ∈ ls) : ∃ i, lifeAt ls i = x := by
  obtain ⟨i, hi⟩ := List.mem_iff_getElem?.mp h
  exact ⟨i, lifeAt_lt hi⟩
theorem small_of {n : Nat} (hn : n ≤ 10 ^ 20) {ls : List (Option Int)} (b : ∀ i, Bdn n (lifeAt ls i)) : ∀ x ∈ ls, ∀ i, x = some i → i.natAbs < 2 ^ 600 := fun x hx => by
  obtain ⟨i, rfl⟩ := mem_at hx
  exact (b i).small hn
theorem bdn_short {n : Nat} {ls : List (Option Int)} (h0 : 0 < ls.length) (b : ∀ i, Bdn n (lifeAt ls i)) (i : Nat) : Bdn n (lifeAt (short ls) i) := by
  rw [lifeAt_short h0]
  exact b i
theorem sh_ttwo {d e : PyData} (x : Sh d 71000 1) (y : Sh e 71000 1) : Sh (.tuple [d, e]) 150000 2 := by
  have z : Sh (.tuple [d, e]) ([d, e].length * 71000 + 2 * [d, e].length + 3) 2 := Sh.tup (k := 1) (n := 71000) fun q hq => by
    rcases List.mem_cons.mp hq with rfl | hq
    · exact x
    · rw [List.mem_singleton.mp hq]
      exact y
  exact z.mono (by show 2 * 71000 + 2 * 2 + 3 ≤ 150000; decide) (Nat.le_refl _)
theorem le_all2 {X Y : List (Option Int)} (h : ∀ i, leO (lifeAt X i) (lifeAt Y i) = true) (n : Nat) : ((List.range n).all fun i => leO (lifeAt X i) (lifeAt Y i)) = true := List.all_eq_true.mpr fun i _ => h i
theorem shown_eq (d : PyData) : (!decide (V.str d.shown = V.str d.shown)) = false := by simp
end Rk
namespace Rk
open PySem PySem.Spec PyProof.Rows L2
open PySem.W (InstAt findIn isFn fnIn)

/-! ### an own class's x[i], x in y -/
section
variable {X : Cx} {k : Nat} {f C : Addr} {sp : Sp} {a b : Expr} {ta tb : TE} {pos : Pos}
def rOwnA (C : Addr) (sp : Sp) : R2 := fun x y H Q => ∃ p dx fs, x = .ref p ∧ H p = some (.ins C dx fs) ∧ sp [.ref p, y] H Q E0
/-- x[i] by the class's own method -/
theorem pe_ixO (m : OwnOp X.K C f "__getitem__") (fi : fnIn X.K f = true) (F : FnR X.prog X.w X.K X.mg X.base CX0 k f sp) (hr : Room (k + 1) X.A) (ha : PE X a ta) (hb : PE X b tb)
    (hs : ∀ o i, subscripted b true o i = runValue (.builtin "lifetime.subscript" ⟨[o, i], []⟩)) : PE X (.Subscript a b pos) (tOp (rOwnA C sp) ta tb) := by
  refine ⟨fun pins s σ H Q I h => ?_⟩
  refine Subscript_ (binT ha hb I h fun v u s2 x y H2 I2 rx ry q => ?_)
  obtain ⟨p, dx, fs, rfl, hp, q⟩ := q
  cases rx
  obtain ⟨oa, da, Ja⟩ := ins_inst I2 hp
  obtain ⟨mm, hF⟩ := I2.fr
  refine PySem.W.sub_K hF I2.ok.mod.kin Ja m.at_ fi m.fn ?_ (hs _ _)
  refine wpAny_call (codeAny_mono (F X.A.in1 X.stack s2 H2 [.ref p, u] [.ref p, y] _ E0 hr.in1 I2.env0.in1 (.cons rfl (.cons ry .nil)) q) ?_)
  intro r s' z
  cases r with
  | error e => exact z.elim
  | ok fl =>
    cases fl with
    | ret u => exact I2.after z
    | _ => exact z.elim
def rOwnIn (C : Addr) (sp : Sp) : R2 := fun x y H Q => ∃ p dx fs, y = .ref p ∧ H p = some (.ins C dx fs) ∧ sp [.ref p, x] H (fun v H' => ∃ r, v = .bl r ∧ Q (.bl r) H') E0
def rOwnNi (C : Addr) (sp : Sp) : R2 := fun x y H Q => ∃ p dx fs, y = .ref p ∧ H p = some (.ins C dx fs) ∧ sp [.ref p, x] H (fun v H' => ∃ r, v = .bl r ∧ Q (.bl (!r)) H') E0
theorem op_inO (m : OwnOp X.K C f "__contains__") (F : FnR X.prog X.w X.K X.mg X.base CX0 k f sp) (hr : Room k X.A) : OpR X (compareOp .In) (rOwnIn C sp) := by
  intro pins s σ H x y v u Q I rx ry h
  obtain ⟨p, dx, fs, rfl, hp, q⟩ := h
  cases ry
  obtain ⟨oa, da, Ja⟩ := ins_inst I hp
  obtain ⟨mm, hF⟩ := I.fr
  refine PySem.W.in_K hF I.ok.mod.kin Ja m.at_ m.fn ?_
  refine wpAny_call (codeAny_mono (run_fnR F hr pass0 I (vs := [.ref p, x]) (.cons rfl (.cons rx .nil)) q) ?_)
  intro r s' z
  cases r with
  | error e => exact z
  | ok fl =>
    cases fl with
    | ret u =>
      obtain ⟨v, H', I', rv, c, rfl, q2⟩ := z
      obtain rfl : u = Value.bool c := rv
      exact wpAny_truthy_bool ⟨.bl c, H', I', rfl, q2⟩
    | _ => exact z.elim
theorem op_notInO (m : OwnOp X.K C f "__contains__") (F : FnR X.prog X.w X.K X.mg X.base CX0 k f sp) (hr : Room k X.A) : OpR X (compareOp .NotIn) (rOwnNi C sp) := by
  intro pins s σ H x y v u Q I rx ry h
  obtain ⟨p, dx, fs, rfl, hp, q⟩ := h
  cases ry
  obtain ⟨oa, da, Ja⟩ := ins_inst I hp
  obtain ⟨mm, hF⟩ := I.fr
  refine PySem.W.notIn_K hF I.ok.mod.kin Ja m.at_ m.fn ?_
  refine wpAny_call (codeAny_mono (run_fnR F hr pass0 I (vs := [.ref p, x]) (.cons rfl (.cons rx .nil)) q) ?_)
  intro r s' z
  cases r with
  | error e => exact z
  | ok fl =>
    cases fl with
    | ret u =>
      obtain ⟨v, H', I', rv, c, rfl, q2⟩ := z
      obtain rfl : u = Value.bool c := rv
      exact wpAny_truthy_bool ⟨.bl (!c), H', I', rfl, q2⟩
    | _ => exact z.elim
end
end Rk
namespace Rk
open PySem PySem.Spec PyProof.Rows L2

/-! ### values of any kind: what they are as data; the lists and dicts in them stand apart from some addresses -/
def keyD : Key → PyData
  | .inl i => .int i
  | .inr x => .str x
mutual
inductive Dq (K : PySem.W.Frag) (bad : List Addr) (H : Hp) : V → PyData → Prop
  | non : Dq K bad H .non .none
  | bl (b : Bool) : Dq K bad H (.bl b) (.bool b)
  | int (i : Int) : Dq K bad H (.int i) (.int i)
  | str (x : Str) : Dq K bad H (.str x) (.str x)
  | lst {a : Addr} {xs : List V} {ds : List PyData} : H a = some (.lst xs) → a ∉ bad → DqAll K bad H xs ds → Dq K bad H (.ref a) (.list ds)
  | tup {a : Addr} {xs : List V} {ds : List PyData} : SqT K H a xs → DqAll K bad H xs ds → Dq K bad H (.ref a) (.tuple ds)
  | dct {a : Addr} {kvs : List (Key × V)} {ds : List (PyData × PyData)} : H a = some (.dK kvs) → a ∉ bad → DqKv K bad H kvs ds → Dq K bad H (.ref a) (.dict ds)
inductive DqAll (K : PySem.W.Frag) (bad : List Addr) (H : Hp) : List V → List PyData → Prop
  | nil : DqAll K bad H [] []
  | cons {v : V} {vs : List V} {d : PyData} {ds : List PyData} : Dq K bad H v d → DqAll K bad H vs ds → DqAll K bad H (v :: vs) (d :: ds)
inductive DqKv (K : PySem.W.Frag) (bad : List Addr) (H : Hp) : List (Key × V) → List (PyData × PyData) → Prop
  | nil : DqKv K bad H [] []
  | cons {k : Key} {v : V} {r : List (Key × V)} {d : PyData} {ds : List (PyData × PyData)} : Dq K bad H v d → DqKv K bad H r ds → DqKv K bad H ((k, v) :: r) ((keyD k, d) :: ds)
end

/-! #### they stand while all but some addresses stand -/
/-- all but what stands at ex is as it was -/
def Buts (ex : List Addr) (H H' : Hp) : Prop := ∀ b o, H b = some o → b ∉ ex → H' b = some o
theorem Buts.of {ex : List Addr} {H H' : Hp} (s : Same H H') : Buts ex H H' := fun b o e _ => s b o e
theorem Buts.refl {ex : List Addr} {H : Hp} : Buts ex H H := fun _ _ e _ => e
theorem Buts.trans {ex : List Addr} {H H1 H2 : Hp} (a : Buts ex H H1) (b : Buts ex H1 H2) : Buts ex H H2 := fun c o e n => b c o (a c o e n) n
theorem Buts.mono {ex ex' : List Addr} {H H' : Hp} (a : Buts ex H H') (h : ∀ x ∈ ex, x ∈ ex') : Buts ex' H H' := fun b o e n => a b o e fun z => n (h b z)
/-- none of these is a tuple -/
def NoTup (ex : List Addr) (H : Hp) : Prop := ∀ e ∈ ex, ∀ o, H e = some o → (∀ xs, o ≠ .tup xs) ∧ ∀ ob u, o ≠ .frz ob u
theorem Buts.sqt {K : PySem.W.Frag} {ex : List Addr} {H H' : Hp} {a : Addr} {xs : List V} (b : Buts ex H H') (n : NoTup ex H) (h : SqT K H a xs) : SqT K H' a xs := by
  rcases h with (h | ⟨o, h⟩) | h
  · exact .inl (.inl (b _ _ h fun z => (n a z _ h).1 _ rfl))
  · exact .inl (.inr ⟨o, b _ _ h fun z => (n a z _ h).2 _ _ rfl⟩)
  · exact .inr h
section
variable {K : PySem.W.Frag} {bad ex : List Addr} {H H' : Hp}
mutual
theorem Dq.buts (b : Buts ex H H') (n : NoTup ex H) (sub : ∀ e ∈ ex, e ∈ bad) : ∀ (d : PyData) (v : V), Dq K bad H v d → Dq K bad H' v d
  | .none, _, h => by cases h; exact .non
  | .bool x, _, h => by cases h; exact .bl x
  | .int i, _, h => by cases h; exact .int i
  | .str x, _, h => by cases h; exact .str x
  | .list ds, _, h => by
    cases h with
    | lst e hb ha => exact .lst (b _ _ e fun z => hb (sub _ z)) hb (Dq.butsAll b n sub ds _ ha)
  | .tuple ds, _, h => by
    cases h with
    | tup e ha => exact .tup (b.sqt n e) (Dq.butsAll b n sub ds _ ha)
  | .dict ds, _, h => by
    cases h with
    | dct e hb ha => exact .dct (b _ _ e fun z => hb (sub _ z)) hb (Dq.butsKv b n sub ds _ ha)
theorem Dq.butsAll (b : Buts ex H H') (n : NoTup ex H) (sub : ∀ e ∈ ex, e ∈ bad) : ∀ (ds : List PyData) (vs : List V), DqAll K bad H vs ds → DqAll K bad H' vs ds
  | [], _, h => by cases h; exact .nil
  | d :: ds, _, h => by
    cases h with
    | cons h1 h2 => exact .cons (Dq.buts b n sub d _ h1) (Dq.butsAll b n sub ds _ h2)
theorem Dq.butsKv (b : Buts ex H H') (n : NoTup ex H) (sub : ∀ e ∈ ex, e ∈ bad) : ∀ (ds : List (PyData × PyData)) (vs : List (Key × V)), DqKv K bad H vs ds → DqKv K bad H' vs ds
  | [], _, h => by cases h; exact .nil
  | d :: ds, _, h => by
    cases h with
    | cons h1 h2 => exact .cons (Dq.buts b n sub _ _ h1) (Dq.butsKv b n sub ds _ h2)
end
theorem Dq.same {d : PyData} {v : V} (h : Dq K bad H v d) (s : Same H H') : Dq K bad H' v d := Dq.buts (ex := []) (Buts.of s) (fun _ z => nomatch z) (fun _ z => nomatch z) d v h
theorem DqAll.same {ds : List PyData} {vs : List V} (h : DqAll K bad H vs ds) (s : Same H H') : DqAll K bad H' vs ds := Dq.butsAll (ex := []) (Buts.of s) (fun _ z => nomatch z) (fun _ z => nomatch z) ds vs h
theorem DqAll.length : ∀ {vs : List V} {ds : List PyData}, DqAll K bad H vs ds → vs.length = ds.length
  | _, _, .nil => rfl
  | _, _, .cons _ r => congrArg (· + 1) (DqAll.length r)
theorem DqAll.at : ∀ {vs : List V} {ds : List PyData} {i : Nat} {v : V}, DqAll K bad H vs ds → vs[i]? = some v → ∃ d, ds[i]? = some d ∧ Dq K bad H v d
  | _, _, i, v, .nil, e => by simp at e
  | _, _, 0, v, .cons (d := d) h _, e => by
    obtain rfl := Option.some.inj e
    exact ⟨d, rfl, h⟩
  | _, _, i + 1, v, .cons _ r, e => DqAll.at (i := i) r e
theorem DqAll.app : ∀ {vs ws : List V} {ds es : List PyData}, DqAll K bad H vs ds → DqAll K bad H ws es → DqAll K bad H (vs ++ ws) (ds ++ es)
  | _, _, _, _, .nil, h => h
  | _, _, _, _, .cons a r, h => .cons a (DqAll.app r h)
theorem DqAll.take : ∀ {vs : List V} {ds : List PyData} (n : Nat), DqAll K bad H vs ds → DqAll K bad H (vs.take n) (ds.take n)
  | _, _, 0, _ => .nil
  | _, _, n + 1, .nil => .nil
  | _, _, n + 1, .cons a r => .cons a (DqAll.take n r)
theorem DqAll.drop : ∀ {vs : List V} {ds : List PyData} (n : Nat), DqAll K bad H vs ds → DqAll K bad H (vs.drop n) (ds.drop n)
  | _, _, 0, h => h
  | _, _, n + 1, .nil => .nil
  | _, _, n + 1, .cons _ r => DqAll.drop n r
theorem DqAll.rev : ∀ {vs : List V} {ds : List PyData}, DqAll K bad H vs ds → DqAll K bad H vs.reverse ds.reverse
  | _, _, .nil => .nil
  | _, _, .cons (v := v) (vs := vs) (d := d) (ds := ds) a r => by
    rw [List.reverse_cons, List.reverse_cons]
    exact DqAll.app (DqAll.rev r) (.cons a .nil)
theorem DqAll.intro {f : α → V} {g : α → PyData} : ∀ (xs : List α), (∀ x ∈ xs, Dq K bad H (f x) (g x)) → DqAll K bad H (xs.map f) (xs.map g)
  | [], _ => .nil
  | x :: r, h => .cons (h x (List.mem_cons_self ..)) (DqAll.intro r fun y hy => h y (List.mem_cons_of_mem _ hy))
theorem tyx_seqt {a : Addr} {xs : List V} (h : SqT K H a xs) : TyX K H (.ref a) (.type "tuple") := by
  rcases h with (h | ⟨o, h⟩) | ⟨o, its, n, h, hc, _⟩
  · exact .base (.tup h)
  · exact .fTuple h
  · exact .kTuple h hc
/-- the type of such a value -/
def tyD : PyData → Value
  | .none => .type "NoneType"
  | .bool _ => .type "bool"
  | .int _ => .type "int"
  | .str _ => .type "str"
  | .list _ => .type "list"
  | .tuple _ => .type "tuple"
  | .dict _ => .type "dict"
theorem Dq.ty {d : PyData} {v : V} (h : Dq K bad H v d) : TyX K H v (tyD d) := by
  cases h with
  | non => exact .base .non
  | bl b => exact .base (.bl b)
  | int i => exact .base (.int i)
  | str x => exact .base (.str x)
  | lst e _ _ => exact .base (.lst e)
  | tup e _ => exact tyx_seqt e
  | dct e _ _ => exact .base (.dK e)
end

/-! #### their repr -/
theorem paired_keys {P : Program} {w : World} : ∀ {es : List DictEntry} {kvs : List (Key × V)} {vs : List (Key × Value)}, KV kvs vs → Pairs (mixKind P w) es vs → ∀ h : Heap, ∃ bs, ReadsAll h (es.map (·.key)) (kvs.map fun p => keyD p.1) bs ∧ bs = []
  | _, _, _, .nil, .nil, h => ⟨[], .nil, rfl⟩
  | _, _, _, .cons (a := p) (b := q) r rr, .cons (e := e) ke ve pr, h => by
    obtain ⟨bs, h1, rfl⟩ := paired_keys rr pr h
    have k1 : keyIs q.1 e.key = true := ke
    rw [← r.1] at k1
    rcases keyIs_shape k1 with ⟨i, t, e1, e2⟩ | ⟨x, t, e1, e2⟩
    · have r1 : Reads h e.key (keyD p.1) [] := by rw [e2, e1]; exact Reads.int i t
      exact ⟨[] ++ [], ReadsAll.cons r1 h1, rfl⟩
    · have r1 : Reads h e.key (keyD p.1) [] := by rw [e2, e1]; exact Reads.str x t
      exact ⟨[] ++ [], ReadsAll.cons r1 h1, rfl⟩
section
variable {X : Cx} {pins : List (Addr × Obj)} {σ : L2.St} {H : Hp} {s : Shared} {bad : List Addr}
mutual
theorem Dq.reads (I : Inv X pins σ H s) (hb : sysModules ∈ bad) : ∀ (d : PyData) (v : V) (u : Value), Dq X.K bad H v d → RelV v u → ∃ as, Reads s.heap u d as ∧ sysModules ∉ as
  | .none, _, _, h, r => by cases h; cases r; exact ⟨_, Reads.none, fun z => nomatch z⟩
  | .bool b, _, _, h, r => by cases h; cases r; exact ⟨_, Reads.bool b, fun z => nomatch z⟩
  | .int i, _, _, h, r => by cases h; obtain ⟨t, rfl⟩ := r; exact ⟨_, Reads.int i t, fun z => nomatch z⟩
  | .str x, _, _, h, r => by cases h; obtain ⟨t, rfl⟩ := r; exact ⟨_, Reads.str x t, fun z => nomatch z⟩
  | .list ds, _, _, h, r => by
    cases h with
    | lst e nb ha =>
      cases r
      obtain ⟨hz, its, n, rv, hg⟩ := (show ObjOk X.prog X.w H s.heap _ (.lst _) from I.hok _ _ e)
      obtain ⟨as, hr, ns⟩ := Dq.readsAll I hb ds _ its ha rv
      refine ⟨_, Reads.list hg rfl rfl hr, fun z => ?_⟩
      rcases List.mem_cons.mp z with z | z
      · exact nb (z ▸ hb)
      · exact ns z
  | .tuple ds, _, _, h, r => by
    cases h with
    | tup e ha =>
      cases r
      obtain ⟨its, rv, ⟨o, ho, hc, n, hd⟩, _⟩ := I.tuple e
      obtain ⟨as, hr, ns⟩ := Dq.readsAll I hb ds _ its ha rv
      exact ⟨_, Reads.tuple ho hc hd hr, ns⟩
  | .dict ds, _, _, h, r => by
    cases h with
    | dct e nb ha =>
      cases r
      obtain ⟨hz, hm, vs, rel, o, es, ep, ho, hx, hd, _, pr, _⟩ := dk_of I.hok e
      obtain ⟨bs, h1, hbs⟩ := paired_keys rel pr s.heap
      have hk := Dq.kvKeys ds _ ha
      obtain ⟨cs, h2, ns⟩ := Dq.readsKv I hb ds _ vs es.toList ha rel pr
      rw [hk] at h1
      refine ⟨_, Reads.dict ho hx.1 hd h1 h2, fun z => ?_⟩
      subst hbs
      rcases List.mem_cons.mp z with z | z
      · exact nb (z ▸ hb)
      · exact ns z
theorem Dq.kvKeys : ∀ (ds : List (PyData × PyData)) (kvs : List (Key × V)), DqKv X.K bad H kvs ds → (kvs.map fun p => keyD p.1) = ds.map (·.1)
  | [], _, h => by cases h; rfl
  | d :: ds, _, h => by
    cases h with
    | cons h1 h2 => exact congrArg _ (Dq.kvKeys ds _ h2)
theorem Dq.readsKv (I : Inv X pins σ H s) (hb : sysModules ∈ bad) : ∀ (ds : List (PyData × PyData)) (kvs : List (Key × V)) (vs : List (Key × Value)) (es : List DictEntry), DqKv X.K bad H kvs ds → KV kvs vs → Pairs (mixKind X.prog X.w) es vs → ∃ as, ReadsAll s.heap (es.map (·.val)) (ds.map (·.2)) as ∧ sysModules ∉ as
  | [], _, _, _, h, r, p => by
    cases h
    cases r
    cases p
    exact ⟨_, ReadsAll.nil, fun z => nomatch z⟩
  | d :: ds, _, _, _, h, r, p => by
    cases h with
    | cons h1 h2 =>
      cases r with
      | cons r1 r2 =>
        cases p with
        | cons k1 v1 p2 =>
          obtain ⟨as, ha, na⟩ := Dq.reads I hb _ _ _ h1 r1.2
          obtain ⟨bs, hbs, nb⟩ := Dq.readsKv I hb ds _ _ _ h2 r2 p2
          rw [← v1] at ha
          refine ⟨_, ReadsAll.cons ha hbs, fun z => ?_⟩
          rcases List.mem_append.mp z with z | z
          · exact na z
          · exact nb z
theorem Dq.readsAll (I : Inv X pins σ H s) (hb : sysModules ∈ bad) : ∀ (ds : List PyData) (vs : List V) (us : List Value), DqAll X.K bad H vs ds → Vals vs us → ∃ as, ReadsAll s.heap us ds as ∧ sysModules ∉ as
  | [], _, _, h, r => by cases h; cases r; exact ⟨_, ReadsAll.nil, fun z => nomatch z⟩
  | d :: ds, _, _, h, r => by
    cases h with
    | cons h1 h2 =>
      cases r with
      | cons r1 r2 =>
        obtain ⟨as, ha, na⟩ := Dq.reads I hb d _ _ h1 r1
        obtain ⟨bs, hbs, nb⟩ := Dq.readsAll I hb ds _ _ h2 r2
        refine ⟨_, ReadsAll.cons ha hbs, fun z => ?_⟩
        rcases List.mem_append.mp z with z | z
        · exact na z
        · exact nb z
end
end
section
variable {X : Cx}
def rReprQ (K : PySem.W.Frag) : List V → Hp → VK → Prop := fun xs H Q => ∃ x d bad, xs = [x] ∧ Dq K bad H x d ∧ sysModules ∈ bad ∧ d.showable = true ∧ d.depth ≤ 60 ∧ d.shown.length ≤ sizeLine ∧ Q (.str d.shown) H
theorem call_reprQ (hg : X.A.guards = some []) (hu : X.A.units + 64 < cLine) : CallR X (.builtin "repr") (rReprQ X.K) := by
  intro pins s σ H xs us Q I r h
  obtain ⟨x, d, bad, rfl, hd, hb, hs, hdp, hl, q⟩ := h
  obtain ⟨u, rfl, rx⟩ := vals1 r
  obtain ⟨as, rd, ns⟩ := Dq.reads I hb d x u hd rx
  cases hd with
  | non => cases rx; exact PySem.P.repr_of_none ⟨.str _, H, I.tok _, ⟨_, rfl⟩, q⟩
  | bl b => cases rx; exact PySem.P.repr_of_bool ⟨.str _, H, I.tok _, ⟨_, rfl⟩, q⟩
  | int i => obtain ⟨t, rfl⟩ := rx; exact PySem.P.repr_of_int (by simpa [PyData.showable] using hs) ⟨.str _, H, I.tok _, ⟨_, rfl⟩, q⟩
  | str z => obtain ⟨t, rfl⟩ := rx; exact PySem.P.repr_of_str (hsz := hl) ⟨.str _, H, I.tok _, ⟨_, rfl⟩, q⟩
  | lst h1 h2 h3 =>
    cases rx
    exact repr_of_reads' rd hs (fun _ => ns) hg (by omega) (fun _ _ e => e) (fun h' u tk hk => ⟨.str _, H, I.kept (t' := tk) hk, ⟨_, rfl⟩, q⟩) hl
  | tup h1 h2 =>
    cases rx
    exact repr_of_reads' rd hs (fun _ => ns) hg (by omega) (fun _ _ e => e) (fun h' u tk hk => ⟨.str _, H, I.kept (t' := tk) hk, ⟨_, rfl⟩, q⟩) hl
  | dct h1 h2 h3 =>
    cases rx
    exact repr_of_reads' rd hs (fun _ => ns) hg (by omega) (fun _ _ e => e) (fun h' u tk hk => ⟨.str _, H, I.kept (t' := tk) hk, ⟨_, rfl⟩, q⟩) hl
end
/-! #### new lists and dicts stand apart from the module table -/
def tLstX (t : TA) : TE := fun σ H Q => t σ H fun xs H1 => xs.length ≤ sizeLine ∧ ∀ p, H1 p = none → p ≠ sysModules → Q (.ref p) (upd H1 p (.lst xs))
theorem pe_lstX {X : Cx} {es : List Expr} {t : TA} {pos : Pos} (h : PA X es t) : PE X (.List es pos) (tLstX t) := by
  constructor
  intro pins s σ H Q I hq
  refine wpAny_List_spliced (thn (h.run pos pins s σ H _ I hq) fun us s1 y => ?_)
  obtain ⟨xs, H1, I1, r, z, q⟩ := y
  refine ⟨by rw [← r.length]; exact z, .ref s1.heap.objs.size, upd H1 s1.heap.objs.size (.lst xs), ?_, rfl, q _ (I1.hok.fresh (Nat.le_refl _)) (Nat.ne_of_gt I1.big)⟩
  exact I1.laid (t' := s1.toks) (fun b u e => Heap.get?_push_of_some _ e) (Nat.le_refl _) ⟨z, us, 0, r, Heap.get?_push_size _ rfl⟩
/-! #### items of lists and tuples, said of one written part -/
theorem ix_listK {X : Cx} {K : PySem.W.Frag} (hK : X.K = K) : IxR X (rIxL K) := by
  subst hK
  exact ix_list
end Rk
namespace Rk
open PySem PySem.Spec PyProof.Rows L2

/-! ### what repr shows of small values of any kind -/
structure ShQ (d : PyData) (n k : Nat) : Prop where
  s : d.showable = true
  p : d.depth ≤ k
  l : d.shown.length ≤ n
theorem Sh.q {d : PyData} {n k : Nat} (x : Sh d n k) : ShQ d n k := ⟨x.s, x.p, x.l⟩
theorem ShQ.mono {d : PyData} {n k n' k' : Nat} (x : ShQ d n k) (h : n ≤ n') (h' : k ≤ k') : ShQ d n' k' := ⟨x.s, Nat.le_trans x.p h', Nat.le_trans x.l h⟩
theorem shq_all {n k : Nat} : ∀ ds : List PyData, (∀ d ∈ ds, ShQ d n k) → PyData.showableAll ds = true ∧ PyData.depthAll ds ≤ k ∧ ((PyData.shownAll ds).map (·.length)).sum ≤ ds.length * n ∧ (PyData.shownAll ds).length = ds.length
  | [], _ => ⟨rfl, by simp [PyData.depthAll], by simp [PyData.shownAll], rfl⟩
  | d :: r, h => by
    obtain ⟨a1, a3, a4, a5⟩ := shq_all r fun x hx => h x (List.mem_cons_of_mem _ hx)
    have x := h d List.mem_cons_self
    have x3 := x.p
    have x4 := x.l
    refine ⟨?_, ?_, ?_, ?_⟩
    · show (PyData.showable d && PyData.showableAll r) = true
      rw [x.s, a1]
      rfl
    · show max (PyData.depth d) (PyData.depthAll r) ≤ k
      omega
    · show (PyData.shown d).length + ((PyData.shownAll r).map (·.length)).sum ≤ (r.length + 1) * n
      rw [Nat.succ_mul]
      omega
    · show (PyData.shownAll r).length + 1 = r.length + 1
      omega
theorem ShQ.list {n k : Nat} {ds : List PyData} (h : ∀ d ∈ ds, ShQ d n k) : ShQ (.list ds) (ds.length * n + 2 * ds.length + 3) (k + 1) := by
  obtain ⟨a1, a3, a4, a5⟩ := shq_all ds h
  refine ⟨a1, ?_, ?_⟩
  · show PyData.depthAll ds + 1 ≤ k + 1
    omega
  · have e := listText_len_le (PyData.shownAll ds)
    show (listText (PyData.shownAll ds)).length ≤ _
    omega
theorem ShQ.tup {n k : Nat} {ds : List PyData} (h : ∀ d ∈ ds, ShQ d n k) : ShQ (.tuple ds) (ds.length * n + 2 * ds.length + 3) (k + 1) := by
  obtain ⟨a1, a3, a4, a5⟩ := shq_all ds h
  refine ⟨a1, ?_, ?_⟩
  · show PyData.depthAll ds + 1 ≤ k + 1
    omega
  · have e := tupleText_len_le (PyData.shownAll ds)
    show (tupleText (PyData.shownAll ds)).length ≤ _
    omega
theorem ShQ.dict0 : ShQ (.dict []) 2 1 := ⟨rfl, by simp [PyData.depth, PyData.depthKv], by decide +kernel⟩
theorem ShQ.dictA {d : PyData} {n k : Nat} (x : ShQ d n k) : ShQ (.dict [(.str "a", d)]) (n + 10) (k + 1) := by
  have x3 := x.p
  have x4 := x.l
  refine ⟨?_, ?_, ?_⟩
  · show (true && PyData.showable d && true) = true
    rw [x.s]
    rfl
  · show max (max 0 (PyData.depth d)) 0 + 1 ≤ k + 1
    omega
  · show (dictText [(reprText "a" ++ ": " ++ PyData.shown d)]).length ≤ n + 10
    have e : dictText [(reprText "a" ++ ": " ++ PyData.shown d)] = ("{" : Str) ++ (reprText "a" ++ ": " ++ PyData.shown d) ++ "}" := rfl
    rw [e, Str.length_append, Str.length_append, Str.length_append, Str.length_append]
    have e1 : ("{" : Str).length = 1 := by decide +kernel
    have e2 : ("}" : Str).length = 1 := by decide +kernel
    have e3 : (reprText "a").length = 3 := by decide +kernel
    have e4 : (": " : Str).length = 2 := by decide +kernel
    rw [e1, e2, e3, e4]
    omega
theorem ShQ.ok {d : PyData} {n k : Nat} (x : ShQ d n k) (h : n ≤ 1000000) (h' : k ≤ 60) : d.showable = true ∧ d.depth ≤ 60 ∧ d.shown.length ≤ sizeLine := by
  have l := x.l
  refine ⟨x.s, Nat.le_trans x.p h', ?_⟩
  rw [sizeLine_eq]
  omega
/-! ### new dicts stand apart from the module table -/
def tDNewX : TE := fun _ H Q => ∀ p, H p = none → p ≠ sysModules → Q (.ref p) (upd H p (.dK []))
theorem pe_dnewX {X : Cx} {pos : Pos} : PE X (.Dict [] [] pos) tDNewX := ⟨fun pins s σ H Q I h =>
  wpAny_Dict_empty ⟨.ref s.heap.objs.size, _, I.laid (a := s.heap.objs.size) (o := .dK []) (t' := s.toks) (fun _ _ q => Heap.get?_push_of_some _ q) (Nat.le_refl _) (dk_empty s.heap I.big), rfl, h _ (I.hok.fresh (Nat.le_refl _)) (Nat.ne_of_gt I.big)⟩⟩
def tDispX (trs : List (TE × TE)) : TE := fun σ H Q => ∀ p, H p = none → p ≠ sysModules → tPairs trs σ (upd H p (.dK [])) fun ps H2 => H2 p = some (.dK []) ∧ ∃ kvs : List (Key × V), ps = kvs.map (fun kv => (kV kv.1, kv.2)) ∧ kvs.length ≤ 15 ∧ Q (.ref p) (upd H2 p (.dK (mergeK [] kvs)))
theorem pe_dispX {X : Cx} {pos : Pos} {keys : List (Option Expr)} {values : List Expr} {trs : List (TE × TE)} (h : PPs X pos keys values trs) (hall : keys.all (·.isSome) = true) (hl : keys.length = values.length) (h0 : keys ≠ [])
    (h15 : keys.length ≤ 15) : PE X (.Dict keys values pos) (tDispX trs) := by
  refine ⟨fun pins s σ H Q I q => ?_⟩
  have hn := I.hok.fresh (Nat.le_refl s.heap.objs.size)
  have hb := Nat.ne_of_gt I.big
  have I1 := I.laid (a := s.heap.objs.size) (o := .dK []) (h' := s.heap.push { cls := .type "dict", data := .dict #[] }) (t' := s.toks) (fun _ _ q => Heap.get?_push_of_some _ q) (Nat.le_refl _) (dk_empty s.heap I.big)
  refine wpAny_Dict_walk (knd := mixKind X.prog X.w) hall hl h0 h15 (thn (h.run pins _ σ _ _ I1 (q _ hn hb)) fun ws s2 ⟨ps, H2, I2, rel, e, kvs, ep, lk, q2⟩ => ?_)
  subst ep
  obtain ⟨rs, c, rk⟩ := carries_of (P := X.prog) (w := X.w) rel
  obtain ⟨z, hd, vs0, r0, dd⟩ := dk_of I2.hok e
  cases r0
  refine ⟨rs, c, dd, fun h' dd' hs => ⟨.ref s.heap.objs.size, _, ?_, rfl, q2⟩⟩
  have hz : (mergeK [] kvs).length ≤ sizeLine := by
    have h1 := length_mergeK kvs []
    rw [List.length_nil] at h1
    rw [sizeLine_eq]; omega
  have he : ∃ q, h'.get? s.heap.objs.size = some q := let ⟨q, _, _, hq, _⟩ := dd'; ⟨q, hq⟩
  exact d_write I2 (by rw [e]; exact True.intro) hs he (dk_new hz hd (rk.merge .nil) dd')
/-! ### numbers among the values -/
/-- an integer from 0 that is no bool -/
def natD : PyData → Bool
  | .int i => decide (0 ≤ i)
  | _ => false
/-- the values that are ints, and no bools -/
def intD : PyData → Option Int
  | .int i => some i
  | _ => none
/-- such a value, small, and apart from the module table and the addresses at ex -/
def AnyV (K : PySem.W.Frag) (ex : List Addr) (H : Hp) (v : V) (d : PyData) : Prop := Dq K (sysModules :: ex) H v d ∧ ShQ d 200000 20
theorem AnyV.buts {K : PySem.W.Frag} {ex : List Addr} {H H' : Hp} {v : V} {d : PyData} (h : AnyV K ex H v d) (b : Buts ex H H') (n : NoTup ex H) : AnyV K ex H' v d :=
  ⟨Dq.buts b n (fun e he => List.mem_cons_of_mem _ he) d v h.1, h.2⟩
theorem AnyV.same {K : PySem.W.Frag} {ex : List Addr} {H H' : Hp} {v : V} {d : PyData} (h : AnyV K ex H v d) (s : Same H H') : AnyV K ex H' v d := ⟨h.1.same s, h.2⟩
theorem signs_small (s : String) : ∀ c ∈ (Str.ofString s).cps.toList, c < 16 ^ 8 := by
  intro c hc
  rw [signs_ofString] at hc
  obtain ⟨ch, _, rfl⟩ := List.mem_map.mp hc
  have h : ch.val.toNat < 2 ^ 32 := ch.val.toNat_lt
  exact h
/-- a number as text -/
theorem ShQ.num {i : Int} (h : i.natAbs < 2 ^ 600) : ShQ (.str (Str.ofString (toString i))) 8000 0 := by
  have q := PySem.Flt.log2_lt_of (by decide : 0 < 600) h
  refine ⟨rfl, by simp [PyData.depth], ?_⟩
  have e := int_text_length_le (k := 600) (by decide) q
  have e2 := StrLaws.reprText_len (Str.ofString (toString i)) (signs_small _)
  show (reprText (Str.ofString (toString i))).length ≤ 8000
  have e3 : (Str.ofString (toString i)).length = (toString i).length := PySem.ofString_length _
  omega
end Rk
namespace Rk
open PySem PySem.Spec PyProof.Rows L2

/-! ### ints and bools as numbers -/
def zI : V → Option Int
  | .int i => some i
  | .bl b => some (if b = true then 1 else 0)
  | _ => none
section
variable {X : Cx}
def rAddZ : R2 := fun x y H Q => ∃ i j : Int, zI x = some i ∧ y = .int j ∧ Q (.int (i + j)) H
theorem op_addZ : OpR X (binaryOp .Add) rAddZ := by
  intro pins s σ H x y v u Q I rx ry h
  obtain ⟨i, j, hx, hy, q⟩ := h
  subst hy
  obtain ⟨t, rfl⟩ := ry
  cases x with
  | int a =>
    cases hx
    obtain ⟨t2, rfl⟩ := rx
    exact add_int ⟨.int _, H, I.tok _, ⟨_, rfl⟩, q⟩
  | bl b =>
    cases hx
    cases rx
    exact PySem.IntBool.add_bool_int ⟨.int _, H, I.tok _, ⟨_, rfl⟩, q⟩
  | _ => cases hx
def rSubZ : R2 := fun x y H Q => ∃ i j : Int, zI x = some i ∧ y = .int j ∧ Q (.int (i - j)) H
theorem op_subZ : OpR X (binaryOp .Sub) rSubZ := by
  intro pins s σ H x y v u Q I rx ry h
  obtain ⟨i, j, hx, hy, q⟩ := h
  subst hy
  obtain ⟨t, rfl⟩ := ry
  cases x with
  | int a =>
    cases hx
    obtain ⟨t2, rfl⟩ := rx
    exact sub_int ⟨.int _, H, I.tok _, ⟨_, rfl⟩, q⟩
  | bl b =>
    cases hx
    cases rx
    exact PySem.IntBool.sub_bool_int ⟨.int _, H, I.tok _, ⟨_, rfl⟩, q⟩
  | _ => cases hx
/-- == and != of values of any kind but dicts -/
def rEqQ (K : PySem.W.Frag) : R2 := fun x y H Q => ∃ bad d e, sysModules ∈ bad ∧ Dq K bad H x d ∧ Dq K bad H y e ∧ SeqAt.shaped d = true ∧ SeqAt.shaped e = true ∧ Q (.bl (PyData.eqv d e)) H
def rNeQ (K : PySem.W.Frag) : R2 := fun x y H Q => ∃ bad d e, sysModules ∈ bad ∧ Dq K bad H x d ∧ Dq K bad H y e ∧ SeqAt.shaped d = true ∧ SeqAt.shaped e = true ∧ Q (.bl (!PyData.eqv d e)) H
theorem op_eqQ (hu : X.A.units + 64 < cLine) : OpR X (compareOp .Eq) (rEqQ X.K) := by
  intro pins s σ H x y v u Q I rx ry h
  obtain ⟨bad, d, e, hb, hd, he, sd, se, q⟩ := h
  obtain ⟨as, r1, _⟩ := Dq.reads I hb d x v hd rx
  obtain ⟨bs, r2, _⟩ := Dq.reads I hb e y u he ry
  exact SeqAt.compareEq_shaped r1 r2 sd se hu ⟨.bl _, H, I, rfl, q⟩
theorem op_neQ (hu : X.A.units + 64 < cLine) : OpR X (compareOp .NotEq) (rNeQ X.K) := by
  intro pins s σ H x y v u Q I rx ry h
  obtain ⟨bad, d, e, hb, hd, he, sd, se, q⟩ := h
  obtain ⟨as, r1, _⟩ := Dq.reads I hb d x v hd rx
  obtain ⟨bs, r2, _⟩ := Dq.reads I hb e y u he ry
  exact SeqAt.compareNe_shaped r1 r2 sd se hu ⟨.bl _, H, I, rfl, q⟩
theorem op_eqQK {K : PySem.W.Frag} (hK : X.K = K) (hu : X.A.units + 64 < cLine) : OpR X (compareOp .Eq) (rEqQ K) := by
  subst hK
  exact op_eqQ hu
theorem op_neQK {K : PySem.W.Frag} (hK : X.K = K) (hu : X.A.units + 64 < cLine) : OpR X (compareOp .NotEq) (rNeQ K) := by
  subst hK
  exact op_neQ hu
def boolT (b : Bool) : Str := if b then "True" else "False"
theorem call_strZ : CallR X (.type "str") (fun xs H Q => (∃ i, xs = [.int i] ∧ i.natAbs.log2 < 1920 ∧ Q (.str (toString i)) H) ∨ ∃ b, xs = [.bl b] ∧ Q (.str (boolT b)) H) := by
  intro pins s σ H xs us Q I r h
  rcases h with ⟨i, rfl, hz, q⟩ | ⟨b, rfl, q⟩
  · obtain ⟨u, rfl, t, rfl⟩ := vals1 r
    exact PySem.P.str_of_int hz ⟨.str _, H, I.tok _, ⟨_, rfl⟩, q⟩
  · obtain ⟨u, rfl, rx⟩ := vals1 r
    cases rx
    exact PySem.P.str_of_bool ⟨.str (boolT b), H, I.tok _, ⟨_, rfl⟩, q⟩
/-- list(t): a list of its own, apart from the module table -/
def rListX (K : PySem.W.Frag) : List V → Hp → VK → Prop := fun xs H Q => ∃ p ys, xs = [.ref p] ∧ SqT K H p ys ∧ ∀ l, H l = none → l ≠ sysModules → Q (.ref l) (upd H l (.lst ys))
theorem call_listX : CallR X (.type "list") (rListX X.K) := by
  intro pins s σ H xs us Q I r h
  obtain ⟨p, ys, rfl, hq, q⟩ := h
  obtain ⟨u, rfl, rx⟩ := vals1 r
  cases rx
  obtain ⟨its, r', pl, hz⟩ := I.tuple hq
  have hlen := r'.length
  obtain ⟨o, ho, hc, n, hd⟩ := pl
  refine call_list_seq p (.inr rfl) ho hc hd (fun h' c' kp e => ?_) (by simp only [List.size_toArray] <;> omega)
  exact ⟨.ref s.heap.objs.size, _, I.laid (t' := s.toks) kp (Nat.le_refl _) (show ObjOk X.prog X.w _ h' _ (.lst ys) from ⟨hz, its, c', r', e⟩), rfl, q _ (I.hok.fresh (Nat.le_refl _)) (Nat.ne_of_gt I.big)⟩
theorem call_listXK {K : PySem.W.Frag} (hK : X.K = K) : CallR X (.type "list") (rListX K) := by
  subst hK
  exact call_listX
/-! ### sums and slices of tuples, whatever their form -/
def rCatQ (K : PySem.W.Frag) : R2 := fun x y H Q => ∃ (a b : Addr) (xs ys : List V), x = .ref a ∧ y = .ref b ∧ SqT K H a xs ∧ SqT K H b ys ∧ xs.length + ys.length ≤ sizeLine ∧
  ∀ r H', Same H H' → SqT K H' r (xs ++ ys) → Q (.ref r) H'
theorem op_catQ : OpR X (binaryOp .Add) (rCatQ X.K) := by
  intro pins s σ H x y v u Q I rx ry h
  obtain ⟨a, b, xs, ys, ex, ey, ha, hb, hz, q⟩ := h
  refine op_catA pins s σ H x y v u Q I rx ry ⟨a, b, xs, ys, ex, ey, ha, hb, hz, fun z => ?_, fun _ z => ?_, fun _ _ p hp => ?_⟩
  · refine q b H (Same.refl _) ?_
    rw [z, List.nil_append]
    exact hb
  · refine q a H (Same.refl _) ?_
    rw [z, List.append_nil]
    exact ha
  · exact q p _ (same_upd hp) (SqT.of upd_same)
theorem op_catQK {K : PySem.W.Frag} (hK : X.K = K) : OpR X (binaryOp .Add) (rCatQ K) := by
  subst hK
  exact op_catQ
def rSlQ (K : PySem.W.Frag) : V → Option Int → Option Int → Hp → VK → Prop := fun x lo hi H Q => ∃ (a : Addr) (xs : List V), x = .ref a ∧ SqT K H a xs ∧
  ∀ r H', Same H H' → SqT K H' r (cutV xs lo hi) → Q (.ref r) H'
theorem sl_tupQ : SlR X (rSlQ X.K) := by
  intro pins s σ H x v vl vu lo hi sl Q I rx hs pl pu h
  obtain ⟨a, xs, e, hx, q⟩ := h
  exact sl_tupB pins s σ H x v vl vu lo hi sl Q I rx hs pl pu ⟨a, xs, e, hx, fun r H' z => q r H' (rSlB_same z) (rSlB_at hx z)⟩
theorem sl_tupQK {K : PySem.W.Frag} (hK : X.K = K) : SlR X (rSlQ K) := by
  subst hK
  exact sl_tupQ
end
theorem cut_to (xs : List V) (n : Nat) : cutV xs none (some (n : Int)) = xs.take n := by
  have h0 : HT.sIx xs.length 0 none = 0 := by
    unfold HT.sIx
    simp
  have h : HT.sIx xs.length xs.length (some (n : Int)) = min n xs.length := by
    unfold HT.sIx
    simp
    omega
  unfold cutV
  rw [h0, h, List.drop_zero, Nat.sub_zero]
  rcases Nat.le_total n xs.length with c | c
  · rw [Nat.min_eq_left c]
  · rw [Nat.min_eq_right c, List.take_of_length_le c, List.take_of_length_le (Nat.le_refl _)]
theorem cut_from (xs : List V) (n : Nat) : cutV xs (some (n : Int)) none = xs.drop n := by
  have h0 : HT.sIx xs.length xs.length none = xs.length := by
    unfold HT.sIx
    simp
  have h : HT.sIx xs.length 0 (some (n : Int)) = min n xs.length := by
    unfold HT.sIx
    simp
    omega
  unfold cutV
  rw [h0, h]
  rcases Nat.le_total n xs.length with c | c
  · rw [Nat.min_eq_left c, List.take_of_length_le (by rw [List.length_drop]; exact Nat.le_refl _)]
  · rw [Nat.min_eq_right c, List.drop_eq_nil_of_le c, List.drop_eq_nil_of_le (Nat.le_refl _), List.take_nil]
theorem cut_last (xs : List V) (h : xs ≠ []) : ∃ v, cutV xs (some (-1)) none = [v] ∧ xs.getLast? = some v := by
  have hl : 0 < xs.length := List.length_pos_iff.mpr h
  have h0 : HT.sIx xs.length xs.length none = xs.length := by
    unfold HT.sIx
    simp
  have h1 : HT.sIx xs.length 0 (some (-1)) = xs.length - 1 := by
    unfold HT.sIx
    simp
    omega
  refine ⟨xs.getLast h, ?_, List.getLast?_eq_some_getLast h⟩
  unfold cutV
  rw [h0, h1, show xs.length - (xs.length - 1) = 1 by omega, List.drop_eq_getElem_cons (show xs.length - 1 < xs.length by omega), List.getLast_eq_getElem h]
  rfl
/-! ### t[::-1] -/
section
variable {prog : Program} {w : World} {A : Around} {E : Value → Shared → Prop} {s : Shared}
theorem sliceApplied_rev {sl : Addr} {vs : Value} {n : Nat} {Q : Int × Int × Nat → Shared → Prop} (hs : s.heap.IsSliceOf sl .none .none vs) (ps : IsPart vs (some (-1)))
    (h : Q ((n : Int) - 1, -1, n) s) : wpAny (model prog w) A (Builtin.Slice.sliceApplied (.ref sl) (pure (n : Int))) Q E s := by
  obtain ⟨os, hos, hcs, hds⟩ := id hs
  unfold Builtin.Slice.sliceApplied Builtin.Slice.sliceFields
  refine wpAny_bind (wpAny_bind (wpAny_field hos hds (x := .none) rfl (wpAny_bind (wpAny_field hos hds (x := .none) rfl (wpAny_bind (wpAny_field hos hds (x := vs) rfl (wpAny_pure ?_)))))))
  refine wpAny_bind (HT.slicePart_ ps ?_)
  show wpAny _ _ (if ((-1 : Int) == 0) = true then _ else _) _ _ s
  rw [if_neg (by decide)]
  refine wpAny_bind (HT.slicePart_ .none (wpAny_bind (HT.slicePart_ .none (wpAny_bind (wpAny_pure ?_)))))
  show wpAny _ _ (pure ((n : Int) - 1, (-1 : Int), Builtin.Slice.slicePlaces ((n : Int) - 1) (-1) (-1))) _ _ s
  have e : Builtin.Slice.slicePlaces ((n : Int) - 1) (-1) (-1) = n := by
    unfold Builtin.Slice.slicePlaces
    rw [if_neg (by decide)]
    by_cases c : n = 0
    · subst c
      decide
    · rw [if_pos (by omega), show (-(-1) : Int) = 1 by decide, Int.ediv_one]
      omega
  rw [e]
  exact wpAny_pure h
theorem filterMap_same {α β : Type} {f g : α → Option β} : ∀ l : List α, (∀ x ∈ l, f x = g x) → l.filterMap f = l.filterMap g
  | [], _ => rfl
  | x :: r, h => by
    rw [List.filterMap_cons, List.filterMap_cons, h x List.mem_cons_self, filterMap_same r fun y hy => h y (List.mem_cons_of_mem _ hy)]
theorem pick_rev (xs : Array Value) : ((List.range xs.size).filterMap fun (m : Nat) => xs[(((xs.size : Int) - 1) + (m : Int) * (-1)).toNat]?).toArray = xs.toList.reverse.toArray := by
  have e : ((List.range xs.size).filterMap fun (m : Nat) => xs[(((xs.size : Int) - 1) + (m : Int) * (-1)).toNat]?) = ((List.range xs.size).map fun k => xs.size - 1 - k).filterMap (xs[·]?) := by
    rw [List.filterMap_map]
    apply filterMap_same
    intro m hm
    have := List.mem_range.mp hm
    have e2 : (((xs.size : Int) - 1) + (m : Int) * (-1)).toNat = xs.size - 1 - m := by omega
    rw [e2]
    rfl
  rw [e, PySem.W.krv_range, List.filterMap_reverse, PySem.W.krv_all]
theorem getItem_tuple_rev {t sl : Addr} {items : Array Value} {vs : Value} {Q : Value → Shared → Prop} (ht : IsTup s.heap t items) (hs : s.heap.IsSliceOf sl .none .none vs) (ps : IsPart vs (some (-1)))
    (h : Q (.ref s.heap.objs.size) { s with heap := s.heap.push { cls := .type "tuple", data := .seq items.toList.reverse.toArray } })
    (hsz : items.size ≤ sizeLine) : wpAny (model prog w) A (getItem (.ref t) (.ref sl)) Q E s := by
  have htake : sizeOk (.seq items.toList.reverse.toArray) := by
    show items.toList.reverse.toArray.size ≤ sizeLine
    rw [List.size_toArray, List.length_reverse, Array.length_toList]
    exact hsz
  obtain ⟨os, hos, hcs, hds⟩ := id hs
  have hTs : s.TypeIs (.ref sl) "slice" := ⟨os, hos, hcs⟩
  unfold getItem
  try with_reducible refine wpAny_holding ?_
  first | refine wpAny_bind (wpAny_pure ?_) | skip
  refine wpAny_bind (wpAny_sequenceKey ht.typeIs (by decide) ?_)
  refine wpAny_bind (wpAny_callSpecial?_slot (name := Str.ofString "__getitem__") ht.typeIs PyProof.Rows.slot_tuple_getitem
    (wpAny_call_entry PyProof.Rows.slot_tuple_getitem ht.typeIs PyProof.Rows.entry_tuple_getitem ?_ (PyProof.Rows.args_tuple_getitem _ _)))
  show wpAny _ _ (Builtin.Tuple.tupleItemsOf (.ref t) >>= _) _ _ s
  refine wpAny_bind (tupleItemsOf_ ht ?_)
  refine wpAny_bind (wpAny_typeOf hTs ?_)
  rw [if_pos (by decide)]
  refine wpAny_bind (sliceApplied_rev hs ps ?_)
  have hno : ¬ ((((items.size : Int) - 1) == 0 && (-1 : Int) == 1 && items.size == items.size) = true) := by
    rw [show ((-1 : Int) == 1) = false by decide, Bool.and_false, Bool.false_and]
    exact Bool.false_ne_true
  show wpAny _ _ (if (((items.size : Int) - 1) == 0 && (-1 : Int) == 1 && items.size == items.size) = true then _ else _) _ _ s
  rw [if_neg hno, pick_rev]
  first
    | exact wpAny_bind (m := Builtin.Tuple.tupleExact _) (wpAny_newObj_type (wpAny_pure ⟨_, rfl, wpAny_pure h⟩) htake)
    | exact wpAny_bind (m := Builtin.Tuple.tupleExact _) (wpAny_newObj_type (wpAny_bind (wpAny_pure (wpAny_pure ⟨_, rfl, wpAny_pure h⟩))) htake)
    | exact wpAny_bind (wpAny_bind (m := Builtin.Tuple.tupleExact _) (wpAny_newObj_type (wpAny_pure (wpAny_pure ⟨_, rfl, wpAny_pure h⟩)) htake))
    | exact wpAny_bind (wpAny_bind (m := Builtin.Tuple.tupleExact _) (wpAny_newObj_type (wpAny_pure ⟨_, rfl, wpAny_pure h⟩) htake))
end
section
variable {X : Cx}
def tRevT (K : PySem.W.Frag) (te : TE) : TE := fun σ H Q => te σ H fun x H1 => ∃ a xs, x = .ref a ∧ SqT K H1 a xs ∧ ∀ p, H1 p = none → Q (.ref p) (upd H1 p (.tup xs.reverse))
theorem pe_revT {K : PySem.W.Frag} (hK : X.K = K) {e : Expr} {te : TE} {k : Nat} {p1 p2 p3 pos : Pos} (he : PE X e te) : PE X (.Subscript e (.Slice none none (some (.UnaryOp .USub (.Constant (.int 1) k p1) p2)) p3) pos) (tRevT K te) := by
  subst hK
  refine ⟨fun pins s σ H Q I h => ?_⟩
  refine Subscript_ (thn (he.run pins s σ H _ I h) fun v s1 ⟨x, H1, I1, r1, q1⟩ => ?_)
  obtain ⟨a, xs, ex, hx, q⟩ := q1
  subst ex
  cases r1
  have hst : PO X (some (.UnaryOp .USub (.Constant (.int 1) k p1) p2)) (tPart (tUn (rU fun i => .int (-i)) (tC (.int 1)))) := po_some (pe_un un_neg pe_int)
  refine wpAny_Slice ?_
  rw [evalPart_none]
  refine wpAny_pure ?_
  refine wpAny_pure ?_
  refine thn (hst.run pins s1 σ H1 (fun o H4 => o = some (-1) ∧ H4 = H1) I1 ⟨1, rfl, -1, rfl, rfl, rfl⟩) fun vs s4 ⟨o, H4, I4, ps, eo, e4⟩ => ?_
  subst eo e4
  have I5 : Inv X pins σ H4 { s4 with heap := s4.heap.push { cls := .type "slice", data := .fields #[.none, .none, vs] } } := I4.kept (t' := s4.toks) fun b ob q => Heap.get?_push_of_some _ q
  obtain ⟨its, r, ht, hz⟩ := I5.tuple hx
  have hlen := r.length
  show wpAny (model X.prog X.w) X.A (subscriptTail e (.Slice none none (some (.UnaryOp .USub (.Constant (.int 1) k p1) p2)) p3) (.ref a) (.ref s4.heap.objs.size)) (EP X pins σ Q) X.xe { s4 with heap := s4.heap.push { cls := .type "slice", data := .fields #[.none, .none, vs] } }
  refine tail_any (ops := [.ref a, .ref s4.heap.objs.size]) ht.typeIs PyProof.Rows.slot_tuple_getitem.lookup ?_ (by with_unfolding_all rfl)
  refine getItem_tuple_rev ht (Heap.IsSliceOf.new _ .none .none vs) ps ?_ (by rw [List.size_toArray]; omega)
  refine ⟨.ref _, _, I5.laid (t' := s4.toks) (o := .tup xs.reverse) (fun b ob q => Heap.get?_push_of_some _ q) (Nat.le_refl _) ?_, rfl, q _ (I5.hok.fresh (Nat.le_refl _))⟩
  exact ⟨by rw [List.length_reverse]; exact hz, _, r.reverse, IsTup.new _ _⟩
end
end Rk
namespace Rk
open PySem PySem.Spec PyProof.Rows L2

/-! ### data: what repr shows of tuples, part by part -/
def pw (ds : List PyData) : Nat := (ds.map fun d => d.shown.length + 2).sum
theorem pw_nil : pw [] = 0 := rfl
theorem pw_cons (d : PyData) (ds : List PyData) : pw (d :: ds) = d.shown.length + 2 + pw ds := by simp [pw]
theorem pw_append (xs ys : List PyData) : pw (xs ++ ys) = pw xs + pw ys := by simp [pw]
theorem pw_reverse (xs : List PyData) : pw xs.reverse = pw xs := by
  induction xs with
  | nil => rfl
  | cons x r ih => rw [List.reverse_cons, pw_append, ih, pw_cons, pw_cons, pw_nil]; omega
theorem pw_take_drop (ds : List PyData) (i : Nat) : pw (ds.take i) + pw (ds.drop i) = pw ds := by rw [← pw_append, List.take_append_drop]
theorem pw_len (ds : List PyData) : 2 * ds.length ≤ pw ds := by
  induction ds with
  | nil => exact Nat.le_refl _
  | cons d r ih => rw [pw_cons, List.length_cons]; omega
theorem pw_split {ds : List PyData} {i : Nat} {d : PyData} (h : ds[i]? = some d) : pw ds = pw (ds.take i) + (d.shown.length + 2) + pw (ds.drop (i + 1)) := by
  obtain ⟨hi, e⟩ := List.getElem?_eq_some_iff.mp h
  rw [← pw_take_drop ds i, List.drop_eq_getElem_cons hi, e, pw_cons]
  omega
theorem shownAll_piled : ∀ ds : List PyData, piled (PyData.shownAll ds) = pw ds
  | [] => by simp [PyData.shownAll, pw, piled]
  | d :: r => by
    have ih := shownAll_piled r
    show piled (PyData.shown d :: PyData.shownAll r) = _
    rw [piled_cons, ih, pw_cons]
theorem piled_sum : ∀ ts : List Str, piled ts = (ts.map (·.length)).sum + 2 * ts.length
  | [] => rfl
  | t :: r => by
    rw [piled_cons, piled_sum r, List.map_cons, List.sum_cons, List.length_cons]
    omega
theorem pw_le_tup (ds : List PyData) : pw ds ≤ (PyData.shown (.tuple ds)).length := by
  have h := piled_le_tupleText (PyData.shownAll ds)
  rw [shownAll_piled] at h
  exact h
theorem tup_le_pw (ds : List PyData) : (PyData.shown (.tuple ds)).length ≤ pw ds + 3 := by
  have h := tupleText_len_le (PyData.shownAll ds)
  have e := piled_sum (PyData.shownAll ds)
  rw [shownAll_piled] at e
  show (tupleText (PyData.shownAll ds)).length ≤ _
  omega
theorem list_le_pw (ds : List PyData) : (PyData.shown (.list ds)).length ≤ pw ds + 3 := by
  have h := listText_len_le (PyData.shownAll ds)
  have e := piled_sum (PyData.shownAll ds)
  rw [shownAll_piled] at e
  show (listText (PyData.shownAll ds)).length ≤ _
  omega
theorem showAll_iff : ∀ ds : List PyData, PyData.showableAll ds = true ↔ ∀ d ∈ ds, d.showable = true
  | [] => ⟨(fun _ _ h => nomatch h), fun _ => rfl⟩
  | d :: r => by
    show (PyData.showable d && PyData.showableAll r) = true ↔ _
    rw [Bool.and_eq_true, showAll_iff r]
    exact ⟨fun h x hx => (List.mem_cons.mp hx).elim (fun e => e ▸ h.1) (fun hx => h.2 x hx), fun h => ⟨h d List.mem_cons_self, fun x hx => h x (List.mem_cons_of_mem _ hx)⟩⟩
theorem depthAll_iff (k : Nat) : ∀ ds : List PyData, PyData.depthAll ds ≤ k ↔ ∀ d ∈ ds, d.depth ≤ k
  | [] => ⟨(fun _ _ h => nomatch h), fun _ => Nat.zero_le _⟩
  | d :: r => by
    show max (PyData.depth d) (PyData.depthAll r) ≤ k ↔ _
    rw [Nat.max_le, depthAll_iff k r]
    exact ⟨fun h x hx => (List.mem_cons.mp hx).elim (fun e => e ▸ h.1) (fun hx => h.2 x hx), fun h => ⟨h d List.mem_cons_self, fun x hx => h x (List.mem_cons_of_mem _ hx)⟩⟩
theorem layAll_iff : ∀ ds : List PyData, PyData.canLayAll0 ds = true ↔ ∀ d ∈ ds, d.canLay0 = true
  | [] => ⟨(fun _ _ h => nomatch h), fun _ => rfl⟩
  | d :: r => by
    show (PyData.canLay0 d && PyData.canLayAll0 r) = true ↔ _
    rw [Bool.and_eq_true, layAll_iff r]
    exact ⟨fun h x hx => (List.mem_cons.mp hx).elim (fun e => e ▸ h.1) (fun hx => h.2 x hx), fun h => ⟨h d List.mem_cons_self, fun x hx => h x (List.mem_cons_of_mem _ hx)⟩⟩
theorem lay_tup (ds : List PyData) : (PyData.tuple ds).canLay0 = true ↔ ∀ d ∈ ds, d.canLay0 = true := layAll_iff ds
theorem lay_list (ds : List PyData) : (PyData.list ds).canLay0 = true ↔ ∀ d ∈ ds, d.canLay0 = true := layAll_iff ds
/-- a part of a tuple that is shown -/
theorem ShQ.parts {ds : List PyData} {n k : Nat} (x : ShQ (.tuple ds) n k) : pw ds ≤ n ∧ ∀ d ∈ ds, d.showable = true ∧ d.depth + 1 ≤ k := by
  obtain ⟨s, p, l⟩ := x
  have s' : PyData.showableAll ds = true := s
  have p' : PyData.depthAll ds + 1 ≤ k := p
  refine ⟨Nat.le_trans (pw_le_tup ds) l, fun d hd => ⟨(showAll_iff ds).mp s' d hd, ?_⟩⟩
  have := (depthAll_iff (k - 1) ds).mp (by omega) d hd
  omega
theorem ShQ.tup_of {ds : List PyData} {n k : Nat} (h : ∀ d ∈ ds, d.showable = true ∧ d.depth + 1 ≤ k) (hk : 1 ≤ k) (hn : pw ds + 3 ≤ n) : ShQ (.tuple ds) n k := by
  refine ⟨(showAll_iff ds).mpr fun d hd => (h d hd).1, ?_, Nat.le_trans (tup_le_pw ds) hn⟩
  show PyData.depthAll ds + 1 ≤ k
  have := (depthAll_iff (k - 1) ds).mpr fun d hd => by have := (h d hd).2; omega
  omega
theorem ShQ.list_of {ds : List PyData} {n k : Nat} (h : ∀ d ∈ ds, d.showable = true ∧ d.depth + 1 ≤ k) (hk : 1 ≤ k) (hn : pw ds + 3 ≤ n) : ShQ (.list ds) n k := by
  refine ⟨(showAll_iff ds).mpr fun d hd => (h d hd).1, ?_, Nat.le_trans (list_le_pw ds) hn⟩
  show PyData.depthAll ds + 1 ≤ k
  have := (depthAll_iff (k - 1) ds).mpr fun d hd => by have := (h d hd).2; omega
  omega
theorem strOk_of (s : String) : PyData.strOk (Str.ofString s) = true := by
  show (Str.ofString s).cps.all (fun c => decide (c < 0x110000)) = true
  rw [← Array.all_toList, signs_ofString, List.all_map, List.all_eq_true]
  intro c hc
  have h := c.valid
  show decide (c.toNat < 0x110000) = true
  refine decide_eq_true ?_
  have h2 : c.val.toNat < 0xd800 ∨ 0xdfff < c.val.toNat ∧ c.val.toNat < 0x110000 := h
  show c.val.toNat < 0x110000
  omega
/-! ### data of a few depths: tuples, whole numbers and others -/
/-- tuples nest at most so deep, and their numbers are small -/
def Td (b : Int) : Nat → PyData → Prop
  | 0, _ => False
  | n + 1, .tuple ds => ∀ d ∈ ds, Td b n d
  | _ + 1, .int i => -b ≤ i ∧ i ≤ b
  | _ + 1, _ => True
/-- tuples and whole numbers, nothing else -/
def Ti : Nat → PyData → Prop
  | 0, _ => False
  | n + 1, .tuple ds => ∀ d ∈ ds, Ti n d
  | _ + 1, .int _ => True
  | _ + 1, _ => False
theorem Td.mono {b c : Int} (h : b ≤ c) : ∀ {n m : Nat} {d : PyData}, n ≤ m → Td b n d → Td c m d
  | 0, _, _, _, z => z.elim
  | n + 1, 0, _, hm, _ => absurd hm (by omega)
  | n + 1, m + 1, d, hm, z => by
    cases d with
    | tuple ds => exact fun x hx => Td.mono h (by omega) (z x hx)
    | int i => exact ⟨by have := z.1; omega, Int.le_trans z.2 h⟩
    | none => trivial
    | bool _ => trivial
    | str _ => trivial
    | list _ => trivial
    | dict _ => trivial
section
variable {K : PySem.W.Frag} {bad bad' : List Addr} {H : Hp}
mutual
theorem Dq.wider (b : ∀ x, x ∈ bad' → x ∈ bad ∨ H x = none) : ∀ (d : PyData) (v : V), Dq K bad H v d → Dq K bad' H v d
  | .none, _, h => by cases h; exact .non
  | .bool x, _, h => by cases h; exact .bl x
  | .int i, _, h => by cases h; exact .int i
  | .str x, _, h => by cases h; exact .str x
  | .list ds, _, h => by
    cases h with
    | lst e hb ha => exact .lst e (fun z => by rcases b _ z with z | z; exact hb z; rw [e] at z; cases z) (Dq.widerAll b ds _ ha)
  | .tuple ds, _, h => by
    cases h with
    | tup e ha => exact .tup e (Dq.widerAll b ds _ ha)
  | .dict ds, _, h => by
    cases h with
    | dct e hb ha => exact .dct e (fun z => by rcases b _ z with z | z; exact hb z; rw [e] at z; cases z) (Dq.widerKv b ds _ ha)
theorem Dq.widerAll (b : ∀ x, x ∈ bad' → x ∈ bad ∨ H x = none) : ∀ (ds : List PyData) (vs : List V), DqAll K bad H vs ds → DqAll K bad' H vs ds
  | [], _, h => by cases h; exact .nil
  | d :: ds, _, h => by
    cases h with
    | cons h1 h2 => exact .cons (Dq.wider b d _ h1) (Dq.widerAll b ds _ h2)
theorem Dq.widerKv (b : ∀ x, x ∈ bad' → x ∈ bad ∨ H x = none) : ∀ (ds : List (PyData × PyData)) (vs : List (Key × V)), DqKv K bad H vs ds → DqKv K bad' H vs ds
  | [], _, h => by cases h; exact .nil
  | d :: ds, _, h => by
    cases h with
    | cons h1 h2 => exact .cons (Dq.wider b _ _ h1) (Dq.widerKv b ds _ h2)
end
end
theorem Dq.lay_dict {ds : List (PyData × PyData)} : (PyData.dict ds).canLay0 = false := rfl
end Rk
namespace Rk
open PySem PySem.Spec PyProof.Rows L2
def top (i : Nat) : Stmt := PySem.Challenge.pw_rulerkeep_k22_broken_ages_of_any_value.main.body.getD i (.Pass ⟨0, 0, 0, 0⟩)
/-! ### the law's draws: a pot, a number out of it, an item of a list -/
def PotAt (H : Hp) (a : Addr) (n : Nat) : Prop := ∃ g s c : Int, H a = some (.lst [.int g, .int s, .int c]) ∧ 0 ≤ s ∧ s < 2 ^ 61 ∧ 0 ≤ c ∧ c ≤ n
/-- all but what stands at a is as it was -/
def But (a : Addr) (H H' : Hp) : Prop := ∀ b o, H b = some o → b ≠ a → H' b = some o
theorem But.refl {a : Addr} {H : Hp} : But a H H := fun _ _ e _ => e
theorem But.trans {a : Addr} {H H1 H2 : Hp} (x : But a H H1) (y : But a H1 H2) : But a H H2 := fun b o e ne => y b o (x b o e ne) ne
theorem But.of {a : Addr} {H H1 : Hp} (x : Same H H1) : But a H H1 := fun b o e _ => x b o e
theorem But.seq {a b : Addr} {K : PySem.W.Frag} {H H' : Hp} {xs : List V} (x : But a H H') (ne : b ≠ a) (h : SqL K H b xs) : SqL K H' b xs := by
  rcases h with (h | ⟨o, h⟩) | h
  · exact .inl (.inl (x _ _ h ne))
  · exact .inl (.inr ⟨o, x _ _ h ne⟩)
  · exact .inr h
theorem But.tup {a b : Addr} {K : PySem.W.Frag} {H H' : Hp} {xs : List V} (x : But a H H') (ne : b ≠ a) (h : SqT K H b xs) : SqT K H' b xs := by
  rcases h with (h | ⟨o, h⟩) | h
  · exact .inl (.inl (x _ _ h ne))
  · exact .inl (.inr ⟨o, x _ _ h ne⟩)
  · exact .inr h
theorem PotAt.mono {H : Hp} {a : Addr} {n m : Nat} (p : PotAt H a n) (h : n ≤ m) : PotAt H a m := by
  obtain ⟨g, s, c, e, h1, h2, h3, h4⟩ := p
  exact ⟨g, s, c, e, h1, h2, h3, by omega⟩
theorem PotAt.same {H H' : Hp} {a : Addr} {n : Nat} (p : PotAt H a n) (h : Same H H') : PotAt H' a n := by
  obtain ⟨g, s, c, e, r⟩ := p
  exact ⟨g, s, c, h _ _ e, r⟩
theorem PotAt.but {H H' : Hp} {a b : Addr} {n : Nat} (p : PotAt H a n) (h : But b H H') (ne : a ≠ b) : PotAt H' a n := by
  obtain ⟨g, s, c, e, r⟩ := p
  exact ⟨g, s, c, h _ _ e ne, r⟩
theorem PotAt.ne {H : Hp} {a p : Addr} {n : Nat} (h : PotAt H a n) (hp : H p = none) : a ≠ p := by
  obtain ⟨g, s, c, e, _⟩ := h
  exact ne_of_none e hp
theorem PotAt.upd {H : Hp} {a b : Addr} {n : Nat} {o : HO} (p : PotAt H a n) (ne : a ≠ b) : PotAt (upd H b o) a n := by
  obtain ⟨g, s, c, e, r⟩ := p
  exact ⟨g, s, c, by rw [upd_ne ne]; exact e, r⟩
theorem But.new {a F : Addr} {H H' : Hp} {o : HO} (x : But a H H') (hF : H F = none) : But a H (L2.upd H' F o) := fun b u e ne => by
  rw [upd_ne (ne_of_none e hF)]
  exact x b u e ne
theorem But.free {a r : Addr} {n : Nat} {H H' : Hp} (x : But a H H') (p : PotAt H' a n) (h : H' r = none) : H r = none := by
  cases e : H r with
  | none => rfl
  | some o =>
    by_cases z : r = a
    · obtain ⟨g, s, c, e', _⟩ := p
      rw [z, e'] at h
      cases h
    · rw [x r o e z] at h
      cases h
def spTake : Sp := fun vs H Q _ => ∃ (a : Addr) (n : Nat) (z : Int), vs = [.ref a, .int z] ∧ PotAt H a n ∧ n < 1000000 ∧ 0 < z ∧ z.natAbs < 2 ^ 600 ∧
  ∀ (d : Int) (H' : Hp), 0 ≤ d → d < z → PotAt H' a (n + 1) → But a H H' → Q (.int d) H'
def spPick (K : PySem.W.Frag) : Sp := fun vs H Q _ => ∃ (a b : Addr) (n : Nat) (xs : List V), vs = [.ref a, .ref b] ∧ PotAt H a n ∧ n < 1000000 ∧ SqL K H b xs ∧ b ≠ a ∧ 0 < xs.length ∧ xs.length ≤ 1000 ∧
  ∀ (v : V) (H' : Hp), v ∈ xs → PotAt H' a (n + 1) → But a H H' → Q v H'
def spPot (K : PySem.W.Frag) : Sp := fun vs H Q _ => ∃ (a : Addr) (ns : List Int) (k : Nat), vs = [.ref a, .int k] ∧ SqL K H a (ns.map V.int) ∧ ns.length ≤ 63 ∧ k ≤ 100 ∧
  ∀ (p : Addr) (H' : Hp), H p = none → Same H H' → PotAt H' p 0 → Q (.ref p) H'
theorem primes_at {i : Int} (h0 : 0 ≤ i) (h1 : i < 4) : ∃ p : Int, atI [V.int 2305843009213693951, V.int 2305843009213693921, V.int 2305843009213693907, V.int 2305843009213693723] i = some (.int p) ∧ 0 < p ∧ p < 2 ^ 62 := by
  have h : i = 0 ∨ i = 1 ∨ i = 2 ∨ i = 3 := by omega
  rcases h with rfl | rfl | rfl | rfl
  · exact ⟨_, rfl, by decide, by decide⟩
  · exact ⟨_, rfl, by decide, by decide⟩
  · exact ⟨_, rfl, by decide, by decide⟩
  · exact ⟨_, rfl, by decide, by decide⟩
theorem pow_room {s c : Int} (h1 : 0 ≤ s) (h2 : s < 2 ^ 61) (h3 : 0 ≤ c) (h4 : c ≤ 1000000) : (s + 15485863 * c * c + 7).natAbs < 2 ^ 64 := by
  have e : 15485863 * c * c ≤ 15485863 * 1000000 * 1000000 := by
    have a1 : 15485863 * c ≤ 15485863 * 1000000 := by omega
    exact Int.mul_le_mul a1 h4 h3 (by decide)
  have e0 : 0 ≤ 15485863 * c * c := Int.mul_nonneg (by omega) h3
  omega
theorem iteF' {A B : Prop} (h : B) : if false = true then A else B := iteF h
structure Bl (mg : Str → Option Value) : Prop where
  len : mg "len" = none
  abs : mg "abs" = none
  min : mg "min" = none
  max : mg "max" = none
  range : mg "range" = none
  all : mg "all" = none
  any : mg "any" = none
  repr : mg "repr" = none
  tuple : mg "tuple" = none
  list : mg "list" = none
  sorted : mg "sorted" = none
  enumerate : mg "enumerate" = none
  str : mg "str" = none
  zip : mg "zip" = none
  isinstance : mg "isinstance" = none
  int : mg "int" = none
  bool : mg "bool" = none
  sum : mg "sum" = none
theorem cdiv4099 : CDivW x 4099 := wide_div (b := 13) (by decide) (by decide) (by decide) (by decide)
theorem log2_600 {z : Int} (h : 0 < z) (h2 : z.natAbs < 2 ^ 600) {x : Int} : CDivW x z := wide_div (b := 600) h h2 (by decide) (by decide)
theorem three_of (L : Nat) : ∃ n : Nat, (if (if (L : Int) < 3 then (L : Int) else 3) > 1 then (if (L : Int) < 3 then (L : Int) else 3) else 1) = (n : Int) ∧ 1 ≤ n ∧ n ≤ 3 := by
  by_cases h : (L : Int) < 3
  · rw [if_pos h]
    by_cases h1 : (L : Int) > 1
    · rw [if_pos h1]
      exact ⟨L, rfl, by omega, by omega⟩
    · rw [if_neg h1]
      exact ⟨1, rfl, by omega, by omega⟩
  · rw [if_neg h]
    exact ⟨3, rfl, by omega, by omega⟩
abbrev s_law_take : Stmt := (top 34)
abbrev N_law_take : List Str := ["_law_pot_here", "_law_many", "_law_digit", "_law_prime", "_law_mixed"]
theorem sc_law_take : FnScope N_law_take ["_law_pot_here", "_law_many"] (defScope s_law_take) :=
  ⟨rfl, rfl, rfl, by decide +kernel, rfl, by decide +kernel, by decide +kernel⟩
abbrev s_law_of : Stmt := (top 35)
abbrev N_law_of : List Str := ["_law_pot_here", "_law_some"]
theorem sc_law_of : FnScope N_law_of ["_law_pot_here", "_law_some"] (defScope s_law_of) :=
  ⟨rfl, rfl, rfl, by decide +kernel, rfl, by decide +kernel, by decide +kernel⟩
abbrev s_law_pot : Stmt := (top 33)
abbrev N_law_pot : List Str := ["_law_script", "_law_k", "_law_cell", "_law_digits"]
theorem sc_law_pot : FnScope N_law_pot ["_law_script", "_law_k"] (defScope s_law_pot) :=
  ⟨rfl, rfl, rfl, by decide +kernel, rfl, by decide +kernel, by decide +kernel⟩
abbrev s_law_two : Stmt := (top 36)
abbrev N_law_two : List Str := ["_law_index_here", "_law_value", "_law_turn"]
theorem sc_law_two : FnScope N_law_two ["_law_index_here"] (defScope s_law_two) :=
  ⟨rfl, rfl, rfl, by decide +kernel, rfl, by decide +kernel, by decide +kernel⟩
def spTwo : Sp := fun vs H Q _ => ∃ j : Nat, vs = [.int (j : Nat)] ∧ j ≤ 1000 ∧ Q (.int (2 ^ j)) H
section
variable {P : Program} {w : World} {K : PySem.W.Frag} {mg : Str → Option Value} {base : Heap}
theorem ok_take (D : Df K mg "_law_take" s_law_take ["_law_pot_here", "_law_many"]) (T : Bl mg) : Has P w K mg base 1 "_law_take" ["_law_pot_here", "_law_many"] spTake := by
  refine D.has sc_law_take (fun vs H Q E h => ?_) (fun f cdv A outer s H vs Q E gd hr h => ?_)
  · obtain ⟨a, n, z, rfl, _⟩ := h
    rfl
  · obtain ⟨a, n, z, rfl, ⟨g, sd, c, hp, hs0, hs1, hc0, hc1⟩, hn, hz, hz2, k⟩ := h
    refine ⟨_, (pss_cons (ps_if (pt_cmpR op_gt (pe_ix ix_list (pv 0) pe_int (fun _ _ => rfl)) pe_int (nomark _)) (pss_cons (ps_set (i := 2) sc_law_take.nd rfl (Or.inl rfl) (pe_op op_mod (pe_ix ix_list (pv 0) pe_int (fun _ _ => rfl)) (pv 1)))
      (pss_cons (ps_asg (pe_op op_fdivW (pe_ix ix_list (pv 0) pe_int (fun _ _ => rfl)) (pv 1)) (pg_sub (pv 0) pe_int set_list))
      (pss_one (ps_ret (pv 2))))) pss_nil)
      (pss_cons (ps_asg (pe_op op_add (pe_ix ix_list (pv 0) pe_int (fun _ _ => rfl)) pe_int) (pg_sub (pv 0) pe_int set_list))
      (pss_cons (ps_set (i := 3) sc_law_take.nd rfl (Or.inl rfl) (pe_ix ix_list (pe_lst (pa_cons pe_int (pa_cons pe_int (pa_cons pe_int (pa_cons pe_int pa_nil))))) (pe_op op_mod (pe_ix ix_list (pv 0) pe_int (fun _ _ => rfl)) pe_int) (fun _ _ => rfl)))
      (pss_cons (ps_set (i := 4) sc_law_take.nd rfl (Or.inl rfl) (pe_op op_mod (pe_op op_pow (pe_op op_add (pe_op op_add (pe_ix ix_list (pv 0) pe_int (fun _ _ => rfl)) (pe_op op_mul (pe_op op_mul pe_int (pe_ix ix_list (pv 0) pe_int (fun _ _ => rfl))) (pe_ix ix_list (pv 0) pe_int (fun _ _ => rfl)))) pe_int) pe_int) (pv 3)))
      (pss_one (ps_ret (pe_op op_mod (pe_op op_fdivW (pe_op op_mod (pe_op op_mul (pv 4) (pe_op op_add (pe_op op_mod (pv 4) pe_int) (pe_ix ix_list (pv 0) pe_int (fun _ _ => rfl)))) (pv 3)) pe_int) (pv 1)))))))), ?_⟩
    refine ⟨_, rfl, a, _, _, _, rfl, rfl, SqL.of hp, rfl, _, _, rfl, rfl, _, rfl, ?_⟩
    refine ite2 (fun _ => ?_) (fun _ => ?_)
    · refine ⟨_, rfl, a, _, _, _, rfl, rfl, SqL.of hp, rfl, _, rfl, _, _, rfl, rfl, hz, _, rfl, a, _, _, _, rfl, rfl, SqL.of hp, rfl, _, rfl, _, _, rfl, rfl, log2_600 hz hz2, _, rfl, a, _, _, 0, rfl, rfl, hp, rfl, _, rfl, ?_⟩
      exact k _ _ (Int.emod_nonneg _ (by omega)) (Int.emod_lt_of_pos _ hz) ⟨_, sd, c, upd_same, hs0, hs1, hc0, by omega⟩ (fun b o e ne => by rw [upd_ne ne]; exact e)
    · refine ⟨_, rfl, a, _, _, _, rfl, rfl, SqL.of hp, rfl, _, _, rfl, rfl, _, rfl, a, _, _, 2, rfl, rfl, hp, rfl, by decide, fun l hl => ?_⟩
      have nl : a ≠ l := ne_of_none upd_same hl
      have hp2 : ∀ o, upd (upd H a (.lst [.int g, .int sd, .int (c + 1)])) l o a = some (.lst [.int g, .int sd, .int (c + 1)]) := fun o => by
        rw [upd_ne nl]
        exact upd_same
      obtain ⟨p, hat, hp0, hp1⟩ := primes_at (i := (c + 1) % 4) (Int.emod_nonneg _ (by decide)) (Int.emod_lt_of_pos _ (by decide))
      refine ⟨_, rfl, a, _, _, _, rfl, rfl, SqL.of (hp2 _), rfl, _, _, rfl, rfl, (by show (0 : Int) < 4; decide), l, _, _, _, rfl, rfl, SqL.of upd_same, hat, ?_⟩
      refine ⟨_, rfl, a, _, _, _, rfl, rfl, SqL.of (hp2 _), rfl, _, rfl, a, _, _, _, rfl, rfl, SqL.of (hp2 _), rfl, _, _, rfl, rfl, .inl ⟨by decide, by decide⟩, _, rfl, a, _, _, _, rfl, rfl, SqL.of (hp2 _), rfl, _, _, rfl, rfl, .inl ⟨by omega, by omega⟩,
        _, _, rfl, rfl, _, _, rfl, rfl, _, _, rfl, rfl, ⟨by decide, by decide, pow_room hs0 hs1 (by omega) (by omega)⟩, _, rfl, _, _, rfl, rfl, hp0, ?_⟩
      generalize em : ((sd + 15485863 * (c + 1) * (c + 1) + 7) ^ (Int.toNat 3) % p) = m
      have m0 : 0 ≤ m := by rw [← em]; exact Int.emod_nonneg _ (by omega)
      have m1 : m < 2 ^ 62 := by have := Int.emod_lt_of_pos ((sd + 15485863 * (c + 1) * (c + 1) + 7) ^ (Int.toNat 3)) hp0; omega
      refine ⟨_, rfl, _, rfl, _, _, rfl, rfl, (by show (0 : Int) < 1000003; decide), _, rfl, a, _, _, _, rfl, rfl, SqL.of (hp2 _), rfl, _, _, rfl, rfl, _, _, rfl, rfl, .inl ⟨by omega, by omega⟩,
        _, rfl, _, _, rfl, rfl, hp0, _, _, rfl, rfl, cdiv4099, _, rfl, _, _, rfl, rfl, hz, ?_⟩
      refine k _ _ (Int.emod_nonneg _ (by omega)) (Int.emod_lt_of_pos _ hz) ⟨g, sd, c + 1, hp2 _, hs0, hs1, by omega, by omega⟩ (fun b o e ne => ?_)
      have hl' : H l = none := by
        rw [upd_ne nl.symm] at hl
        exact hl
      rw [upd_ne (ne_of_none e hl'), upd_ne ne]
      exact e
theorem ok_pick (D : Df K mg "_law_of" s_law_of ["_law_pot_here", "_law_some"]) (T : Bl mg) (C_law_take : Has P w K mg base 1 "_law_take" ["_law_pot_here", "_law_many"] spTake) : Has P w K mg base 2 "_law_of" ["_law_pot_here", "_law_some"] (spPick K) := by
  refine D.has sc_law_of (fun vs H Q E h => ?_) (fun f cdv A outer s H vs Q E gd hr h => ?_)
  · obtain ⟨a, b, n, xs, rfl, _⟩ := h
    rfl
  · obtain ⟨a, b, n, xs, rfl, hp, hn, hx, ne, h0, h1, k⟩ := h
    refine ⟨_, (pss_one (ps_ret (pe_ix ix_seq (pv 1) (pe_has C_law_take gd (hr.mono (by decide)) rfl (pa_cons (pv 0) (pa_cons (pe_callB call_len_seq (by rfl) T.len PySem.boot_len (pa_cons (pv 1) pa_nil)) pa_nil))) (fun _ _ => rfl)))), ?_⟩
    refine ⟨_, rfl, _, rfl, _, rfl, b, _, rfl, .inl hx, a, n, _, rfl, hp, hn, (by omega), ?_, fun d H' d0 d1 hp' bt => ?_⟩
    · exact Nat.lt_of_le_of_lt (show ((xs.length : Int)).natAbs ≤ 1000 by omega) (by decide)
    · have hi : d.toNat < xs.length := by omega
      refine .inl ⟨b, _, _, xs[d.toNat], rfl, rfl, bt.seq ne hx, at_of (j := d.toNat) (by omega) (List.getElem?_eq_getElem hi), ?_⟩
      exact k _ H' (List.getElem_mem hi) hp' bt
end
def spPickT (K : PySem.W.Frag) : Sp := fun vs H Q _ => ∃ (a b : Addr) (n : Nat) (xs : List V), vs = [.ref a, .ref b] ∧ PotAt H a n ∧ n < 1000000 ∧ H b = some (.tup xs) ∧ 0 < xs.length ∧ xs.length ≤ 1000 ∧ ∀ (v : V) (H' : Hp), v ∈ xs → PotAt H' a (n + 1) → But a H H' → Q v H'
theorem PotAt.ne_tupT {a t : Addr} {n : Nat} {H : Hp} {xs : List V} (p : PotAt H a n) (h : H t = some (.tup xs)) : t ≠ a := by
  obtain ⟨g, s, c, e, _⟩ := p
  exact ne_of h e (by intro z; cases z)
section
variable {P : Program} {w : World} {K : PySem.W.Frag} {mg : Str → Option Value} {base : Heap}
theorem ok_pickT (D : Df K mg "_law_of" s_law_of ["_law_pot_here", "_law_some"]) (T : Bl mg) (C_law_take : Has P w K mg base 1 "_law_take" ["_law_pot_here", "_law_many"] spTake) : Has P w K mg base 2 "_law_of" ["_law_pot_here", "_law_some"] (spPickT K) := by
  refine D.has sc_law_of (fun vs H Q E h => ?_) (fun f cdv A outer s H vs Q E gd hr h => ?_)
  · obtain ⟨a, b, n, xs, rfl, _⟩ := h
    rfl
  · obtain ⟨a, b, n, xs, rfl, hp, hn, hx, h0, h1, k⟩ := h
    refine ⟨_, (pss_one (ps_ret (pe_ix ix_seq (pv 1) (pe_has C_law_take gd (hr.mono (by decide)) rfl (pa_cons (pv 0) (pa_cons (pe_callB call_len_seq (by rfl) T.len PySem.boot_len (pa_cons (pv 1) pa_nil)) pa_nil))) (fun _ _ => rfl)))), ?_⟩
    refine ⟨_, rfl, _, rfl, _, rfl, b, _, rfl, .inr (SqT.of hx), a, n, _, rfl, hp, hn, (by omega), ?_, fun d H' d0 d1 hp' bt => ?_⟩
    · exact Nat.lt_of_le_of_lt (show ((xs.length : Int)).natAbs ≤ 1000 by omega) (by decide)
    · have hi : d.toNat < xs.length := by omega
      refine .inr (.inl ⟨b, _, _, xs[d.toNat], rfl, rfl, SqT.of (bt _ _ hx (hp.ne_tupT hx)), at_of (j := d.toNat) (by omega) (List.getElem?_eq_getElem hi), ?_⟩)
      exact k _ H' (List.getElem_mem hi) hp' bt
theorem ok_pot (D : Df K mg "_law_pot" s_law_pot ["_law_script", "_law_k"]) (T : Bl mg) : Has P w K mg base 1 "_law_pot" ["_law_script", "_law_k"] (spPot K) := by
  refine D.has sc_law_pot (fun vs H Q E h => ?_) (fun f cdv A outer s H vs Q E gd hr h => ?_)
  · obtain ⟨a, ns, i, rfl, _⟩ := h
    rfl
  · obtain ⟨a, ns, i, rfl, hS, hl, hi, k⟩ := h
    refine ⟨_, (pss_cons (ps_set (i := 2) sc_law_pot.nd rfl (Or.inl rfl) (pe_ifExp (pt_cmpR op_lt (pv 1) (pe_callB call_len_seq (by rfl) T.len PySem.boot_len (pa_cons (pv 0) pa_nil)) (nomark _)) (pe_ix ix_list (pv 0) (pv 1) (fun _ _ => rfl)) (pe_op op_add (pe_op op_mul pe_int (pv 1)) pe_int)))
      (pss_cons (ps_set (i := 3) sc_law_pot.nd rfl (Or.inl rfl) (pe_op op_mul (pe_op op_mod (pe_callB call_abs (by rfl) T.abs (by decide +kernel) (pa_cons (pv 2) pa_nil)) (pe_op op_mulW (pe_op op_mulW (pe_op op_pow pe_int pe_int) (pe_op op_pow pe_int pe_int)) (pe_op op_pow pe_int pe_int))) (pe_callTy call_int1 (by rfl) T.int (by decide +kernel) (pa_cons (pe_cmpR op_ge (pe_callB call_abs (by rfl) T.abs (by decide +kernel) (pa_cons (pv 2) pa_nil)) (pe_op op_pow pe_int pe_int) (nomark _)) pa_nil))))
      (pss_one (ps_ret (pe_lst (pa_cons (pv 3) (pa_cons (pe_op op_mod (pe_op op_add (pe_op op_add (pe_op op_mul (pe_op op_mod (pv 2) pe_int) pe_int) (pe_op op_mul pe_int (pv 1))) pe_int) pe_int) (pa_cons pe_int pa_nil)))))))), ?_⟩
    have done : ∀ (cell great : Int) (H0 : Hp) (p : Addr), H p = none → Same H H0 → H0 p = none → Q (.ref p) (upd H0 p (.lst [.int great, .int ((cell % 2305843009213693951 * 1000003 + 104729 * (i : Int) + 71) % 2305843009213693921), .int 0])) := by
      intro cell great H0 p hp sm hp0
      refine k p _ hp (sm.trans (same_upd hp0)) ⟨_, _, _, upd_same, Int.emod_nonneg _ (by decide), ?_, Int.le_refl _, Int.le_refl _⟩
      exact Int.lt_trans (Int.emod_lt_of_pos _ (by decide)) (by decide)
    refine ⟨_, rfl, _, rfl, a, _, rfl, .inl hS, _, _, rfl, rfl, _, rfl, ?_⟩
    refine ite2 (fun hlt => ?_) (fun hge => ?_)
    · have hi2 : i < ns.length := by
        have := of_decide_eq_true hlt
        rw [List.length_map] at this
        omega
      refine ⟨_, rfl, _, rfl, a, _, _, _, rfl, rfl, hS, atI_nat (v := V.int ns[i]) (by rw [List.getElem?_map, List.getElem?_eq_getElem hi2]; rfl), ?_⟩
      refine ⟨_, rfl, _, rfl, _, _, rfl, rfl, ⟨by decide, by decide, by decide⟩, _, _, rfl, rfl, ⟨by decide, by decide, by decide⟩, _, _, rfl, rfl, wide_mul (a := 200) (b := 200) (by decide) (by decide) (by decide) (by decide) (by decide),
        _, _, rfl, rfl, ⟨by decide, by decide, by decide⟩, _, _, rfl, rfl, wide_mul (a := 400) (b := 200) (by decide +kernel) (by decide) (by decide) (by decide) (by decide), _, _, rfl, rfl, (by show (0 : Int) < 10 ^ 60 * 10 ^ 60 * 10 ^ 60; decide +kernel), ?_⟩
      refine ⟨_, rfl, _, rfl, _, _, rfl, rfl, ⟨by decide, by decide, by decide⟩, _, _, rfl, rfl, .inr ⟨_, rfl, _, _, rfl, rfl, .inr (b01 _), ?_⟩⟩
      refine ⟨_, rfl, _, rfl, _, _, rfl, rfl, (by show (0 : Int) < 2305843009213693951; decide), _, _, rfl, rfl, .inr ⟨by decide, by decide⟩, _, rfl, _, _, rfl, rfl, .inl ⟨by decide, by decide⟩,
        _, _, rfl, rfl, _, _, rfl, rfl, _, _, rfl, rfl, (by show (0 : Int) < 2305843009213693921; decide), by show 3 ≤ sizeLine; decide, fun p hp => ?_⟩
      exact done _ _ _ p hp (Same.refl _) hp
    · refine ⟨_, rfl, _, _, rfl, rfl, .inl ⟨by decide, by decide⟩, _, _, rfl, rfl, ?_⟩
      refine ⟨_, rfl, _, rfl, _, _, rfl, rfl, ⟨by decide, by decide, by decide⟩, _, _, rfl, rfl, ⟨by decide, by decide, by decide⟩, _, _, rfl, rfl, wide_mul (a := 200) (b := 200) (by decide) (by decide) (by decide) (by decide) (by decide),
        _, _, rfl, rfl, ⟨by decide, by decide, by decide⟩, _, _, rfl, rfl, wide_mul (a := 400) (b := 200) (by decide +kernel) (by decide) (by decide) (by decide) (by decide), _, _, rfl, rfl, (by show (0 : Int) < 10 ^ 60 * 10 ^ 60 * 10 ^ 60; decide +kernel), ?_⟩
      refine ⟨_, rfl, _, rfl, _, _, rfl, rfl, ⟨by decide, by decide, by decide⟩, _, _, rfl, rfl, .inr ⟨_, rfl, _, _, rfl, rfl, .inr (b01 _), ?_⟩⟩
      refine ⟨_, rfl, _, rfl, _, _, rfl, rfl, (by show (0 : Int) < 2305843009213693951; decide), _, _, rfl, rfl, .inr ⟨by decide, by decide⟩, _, rfl, _, _, rfl, rfl, .inl ⟨by decide, by decide⟩,
        _, _, rfl, rfl, _, _, rfl, rfl, _, _, rfl, rfl, (by show (0 : Int) < 2305843009213693921; decide), by show 3 ≤ sizeLine; decide, fun p hp => ?_⟩
      exact done _ _ _ p hp (Same.refl _) hp
theorem ok_two (D : Df K mg "_law_two" s_law_two ["_law_index_here"]) (T : Bl mg) : Has P w K mg base 1 "_law_two" ["_law_index_here"] spTwo := by
  refine D.has sc_law_two (fun vs H Q E h => ?_) (fun f cdv A outer s H vs Q E gd hr h => ?_)
  · obtain ⟨j, rfl, _⟩ := h
    rfl
  · obtain ⟨j, rfl, hj, k⟩ := h
    refine ⟨_, (pss_cons (ps_set (i := 1) sc_law_two.nd rfl (Or.inl rfl) pe_int)
      (pss_cons (ps_for PassesOwn.never rfl (pi_range1 rfl T.range (pa_cons (pv 0) pa_nil)) (pg_name (i := 2) sc_law_two.nd rfl (Or.inl rfl)) (pss_one (ps_set (i := 1) sc_law_two.nd rfl (Or.inl rfl) (pe_op op_mul (pv 1) pe_int))))
      (pss_one (ps_ret (pv 1))))), ?_⟩
    refine ⟨_, rfl, (j : Int), rfl, by omega, by omega, ?_⟩
    refine for_range (n := j) (fun i σ H' => H' = H ∧ ∃ v, σ = [some (.int (j : Nat)), some (.int (2 ^ i)), v]) ⟨rfl, none, rfl⟩ ?_ ?_
    · rintro i σ H' hi ⟨rfl, v, rfl⟩
      refine ⟨_, rfl, _, _, rfl, rfl, .inr ⟨by decide, by decide⟩, rfl, some (.int (0 + (i : Int))), ?_⟩
      show [some (V.int (j : Nat)), some (V.int (2 ^ i * 2)), some (V.int (0 + (i : Int)))] = _
      rw [Int.pow_succ]
    · rintro σ H' ⟨rfl, v, rfl⟩
      exact ⟨_, rfl, k⟩
end
/-! SPLIT -/
abbrev s_law_lives : Stmt := (top 37)
abbrev N_law_lives : List Str := ["_law_pot_here", "_law_many", "_law_great", "_law_found", "_law_here", "_law_index_here", "_law_size", "_law_more"]
theorem sc_law_lives : FnScope N_law_lives ["_law_pot_here", "_law_many", "_law_great"] (defScope s_law_lives) :=
  ⟨rfl, rfl, rfl, by decide +kernel, rfl, by decide +kernel, by decide +kernel⟩
abbrev s_law_ended : Stmt := (top 38)
abbrev N_law_ended : List Str := ["_law_pot_here", "_law_lives_here"]
theorem sc_law_ended : FnScope N_law_ended ["_law_pot_here", "_law_lives_here"] (defScope s_law_ended) :=
  ⟨rfl, rfl, rfl, by decide +kernel, rfl, by decide +kernel, by decide +kernel⟩
def spLives : Sp := fun vs H Q _ => ∃ (a : Addr) (n m : Nat) (g : Int), vs = [.ref a, .int (m : Nat), .int g] ∧ PotAt H a n ∧ n < 500000 ∧ 1 ≤ m ∧ m ≤ 61 ∧ 0 ≤ g ∧ g ≤ 10 ^ 18 ∧
  ∀ (r : Addr) (is : List Int) (H' : Hp), H r = none → H' r = some (.tup (is.map V.int)) → is.length = m → Asc is → (∀ y ∈ is, 0 ≤ y ∧ y ≤ 10 ^ 18) → PotAt H' a (n + 200) → But a H H' → Q (.ref r) H'
def spEnded : Sp := fun vs H Q _ => ∃ (a t : Addr) (n : Nat) (is : List Int), vs = [.ref a, .ref t] ∧ PotAt H a n ∧ n < 500000 ∧ H t = some (.tup (is.map V.int)) ∧ 0 < is.length ∧ is.length ≤ 61 ∧ Asc is ∧ (∀ y ∈ is, 0 ≤ y ∧ y ≤ 10 ^ 18) ∧
  ∀ (r : Addr) (ls : List (Option Int)) (H' : Hp), H' r = some (.tup (ls.map lv)) → Good ls → ls.length = is.length → PotAt H' a (n + 1) → But a H H' → Q (.ref r) H'
section
variable {P : Program} {w : World} {K : PySem.W.Frag} {mg : Str → Option Value} {base : Heap}
theorem ok_lives (D : Df K mg "_law_lives" s_law_lives ["_law_pot_here", "_law_many", "_law_great"]) (T : Bl mg) (C_law_take : Has P w K mg base 1 "_law_take" ["_law_pot_here", "_law_many"] spTake) (C_law_of : Has P w K mg base 2 "_law_of" ["_law_pot_here", "_law_some"] (spPick K)) (C_law_two : Has P w K mg base 1 "_law_two" ["_law_index_here"] spTwo) : Has P w K mg base 3 "_law_lives" ["_law_pot_here", "_law_many", "_law_great"] spLives := by
  refine D.has sc_law_lives (fun vs H Q E h => ?_) (fun f cdv A outer s H vs Q E gd hr h => ?_)
  · obtain ⟨a, n, m, g, rfl, _⟩ := h
    rfl
  · obtain ⟨a, n, m, g, rfl, hp, hn, m0, m1, g0, g1, k⟩ := h
    have gb : (g + 1).natAbs < 2 ^ 600 := Nat.lt_of_le_of_lt (show (g + 1).natAbs ≤ 10 ^ 18 + 1 by omega) (by decide)
    refine ⟨_, (pss_cons (ps_par (i := 3) (j := 4) rfl sc_law_lives.nd rfl rfl (by decide) rfl rfl (pa_cons (pe_lst pa_nil) (pa_cons (pe_has C_law_of gd (hr.mono (by decide)) rfl (pa_cons (pv 0) (pa_cons (pe_lst (pa_cons pe_int (pa_cons pe_int (pa_cons pe_int (pa_cons (pe_has C_law_take gd (hr.mono (by decide)) rfl (pa_cons (pv 0) (pa_cons (pe_op op_add (pv 2) pe_int) pa_nil))) pa_nil))))) pa_nil))) pa_nil)) (by rfl))
      (pss_cons (ps_for PassesOwn.never rfl (pi_range1 rfl T.range (pa_cons (pv 1) pa_nil)) (pg_name (i := 5) sc_law_lives.nd rfl (Or.inl rfl)) (pss_cons (ps_set (i := 6) sc_law_lives.nd rfl (Or.inl rfl) (pe_has C_law_two gd (hr.mono (by decide)) rfl (pa_cons (pv 5) pa_nil)))
      (pss_cons (ps_set (i := 7) sc_law_lives.nd rfl (Or.inl rfl) (pe_has C_law_of gd (hr.mono (by decide)) rfl (pa_cons (pv 0) (pa_cons (pe_lst (pa_cons pe_int (pa_cons pe_int (pa_cons pe_int (pa_cons (pv 6) (pa_cons (pe_has C_law_take gd (hr.mono (by decide)) rfl (pa_cons (pv 0) (pa_cons (pe_op op_add (pv 2) pe_int) pa_nil))) (pa_cons (pe_op op_add (pv 6) (pe_has C_law_take gd (hr.mono (by decide)) rfl (pa_cons (pv 0) (pa_cons (pe_op op_add (pv 2) pe_int) pa_nil)))) pa_nil))))))) pa_nil))))
      (pss_cons (ps_set (i := 4) sc_law_lives.nd rfl (Or.inl rfl) (pe_callB (call_min2 rfl) (by rfl) T.min (by decide +kernel) (pa_cons (pe_op op_add (pv 4) (pv 7)) (pa_cons (pe_op op_pow pe_int pe_int) pa_nil))))
      (pss_one (ps_expr (pe_bm PySem.F.plainAttrs_list PySem.F.slot_list_append PySem.F.type_list_append mt_append (pv 3) (pa_cons (pv 4) pa_nil))))))))
      (pss_one (ps_ret (pe_callTy call_tuple_of (by rfl) T.tuple (by decide +kernel) (pa_cons (pv 3) pa_nil)))))), ?_⟩
    refine ⟨Nat.zero_le _, fun F hF => ?_⟩
    have pF : ∀ o, PotAt (upd H F o) a n := fun o => hp.same (same_upd hF)
    refine ⟨_, rfl, _, rfl, _, rfl, _, _, rfl, rfl, a, n, _, rfl, pF _, by omega, by omega, gb, fun d1 H1 u0 u1 p1 b1 => ?_⟩
    refine ⟨by show 4 ≤ sizeLine; decide, fun M hM => ?_⟩
    refine ⟨a, M, _, _, rfl, p1.same (same_upd hM), by omega, SqL.of upd_same, (p1.ne hM).symm, by show 0 < 4; decide, by show 4 ≤ 1000; decide, fun v H2 hv p2 b2 => ?_⟩
    obtain ⟨z, rfl, z0, z1⟩ : ∃ z : Int, v = .int z ∧ 0 ≤ z ∧ z ≤ 10 ^ 18 := by
      rcases List.mem_cons.mp hv with rfl | hv
      · exact ⟨_, rfl, by decide, by decide⟩
      rcases List.mem_cons.mp hv with rfl | hv
      · exact ⟨_, rfl, by decide, by decide⟩
      rcases List.mem_cons.mp hv with rfl | hv
      · exact ⟨_, rfl, by decide, by decide⟩
      rcases List.mem_cons.mp hv with rfl | hv
      · exact ⟨_, rfl, u0, by omega⟩
      · exact nomatch hv
    have nFa : F ≠ a := (hp.ne hF).symm
    have sF : Same H (upd H F (.lst [])) := same_upd hF
    have eF2 : H2 F = some (.lst []) := b2 _ _ (same_upd hM _ _ (b1 _ _ upd_same nFa)) nFa
    have bb2 : But a H H2 := ((But.of sF).trans b1).trans ((But.of (same_upd hM)).trans b2)
    refine ⟨_, _, rfl, ?_⟩
    refine ⟨_, rfl, (m : Int), rfl, by omega, by omega, ?_⟩
    refine for_range (n := m) (fun i σ H' => ∃ (x5 x6 x7 : Option V) (is : List Int) (life : Int), σ = [some (.ref a), some (.int (m : Nat)), some (.int g), some (.ref F), some (.int life), x5, x6, x7] ∧ H' F = some (.lst (is.map V.int)) ∧ is.length = i ∧ Asc is ∧
      (∀ y ∈ is, 0 ≤ y ∧ y ≤ life) ∧ 0 ≤ life ∧ life ≤ 10 ^ 18 ∧ PotAt H' a (n + 2 + 3 * i) ∧ But a H H') ⟨none, none, none, [], z, rfl, eF2, rfl, asc_nil, (fun y hy => nomatch hy), z0, z1, p2.mono (by omega), bb2⟩ ?_ ?_
    · rintro i σ H4 hi ⟨x5, x6, x7, is, life, rfl, eF, hl, ha, hb, L0, L1, p4, b4⟩
      refine ⟨_, rfl, i, by rw [Int.zero_add]; rfl, by omega, ?_⟩
      have sz := pow2_pos i
      refine ⟨_, rfl, _, rfl, _, rfl, _, rfl, _, _, rfl, rfl, a, _, _, rfl, p4, by omega, by omega, gb, fun d6 H6 w0 w1 p6 b6 => ?_⟩
      refine ⟨_, rfl, _, rfl, _, rfl, _, _, rfl, rfl, a, _, _, rfl, p6, by omega, by omega, gb, fun d7 H7 y0 y1 p7 b7 => ?_⟩
      refine ⟨_, _, rfl, rfl, by show 6 ≤ sizeLine; decide, fun N hN => ?_⟩
      refine ⟨a, N, _, _, rfl, p7.same (same_upd hN), by omega, SqL.of upd_same, (p7.ne hN).symm, by show 0 < 6; decide, by show 6 ≤ 1000; decide, fun v H8 hv p8 b8 => ?_⟩
      obtain ⟨q, rfl, q0⟩ : ∃ q : Int, v = .int q ∧ 0 ≤ q := by
        rcases List.mem_cons.mp hv with rfl | hv
        · exact ⟨_, rfl, by decide⟩
        rcases List.mem_cons.mp hv with rfl | hv
        · exact ⟨_, rfl, by decide⟩
        rcases List.mem_cons.mp hv with rfl | hv
        · exact ⟨_, rfl, by decide⟩
        rcases List.mem_cons.mp hv with rfl | hv
        · exact ⟨_, rfl, Int.le_of_lt sz⟩
        rcases List.mem_cons.mp hv with rfl | hv
        · exact ⟨_, rfl, w0⟩
        rcases List.mem_cons.mp hv with rfl | hv
        · exact ⟨_, rfl, Int.add_nonneg (Int.le_of_lt sz) y0⟩
        · exact nomatch hv
      have eF8 : H8 F = some (.lst (is.map V.int)) := b8 _ _ (same_upd hN _ _ (b7 _ _ (b6 _ _ eF nFa) nFa)) nFa
      have mn : life ≤ (if (10 : Int) ^ 18 < life + q then (10 : Int) ^ 18 else life + q) ∧ (if (10 : Int) ^ 18 < life + q then (10 : Int) ^ 18 else life + q) ≤ 10 ^ 18 := by
        by_cases h : (10 : Int) ^ 18 < life + q
        · rw [if_pos h]; omega
        · rw [if_neg h]; omega
      have b48 : But a H4 H8 := (b6.trans b7).trans ((But.of (same_upd hN)).trans b8)
      refine ⟨_, rfl, _, rfl, _, _, rfl, rfl, _, _, rfl, rfl, ⟨by decide, by decide, by decide⟩, _, _, rfl, ?_⟩
      refine ⟨_, rfl, .inl ⟨rfl, _, SqL.of eF8⟩, _, rfl, F, _, _, rfl, rfl, eF8, small1000 (by rw [List.length_map]; omega), ?_⟩
      refine ⟨_, _, _, is ++ [if (10 : Int) ^ 18 < life + q then (10 : Int) ^ 18 else life + q], (if (10 : Int) ^ 18 < life + q then (10 : Int) ^ 18 else life + q), rfl, by rw [upd_same, List.map_append]; rfl, by rw [List.length_append, hl]; rfl, asc_snoc ha (fun y hy => Int.le_trans (hb y hy).2 mn.1), ?_, by omega, mn.2, (p8.upd nFa.symm).mono (by omega), ?_⟩
      · intro y hy
        rcases List.mem_append.mp hy with h | h
        · have := hb y h
          omega
        · rw [List.mem_singleton.mp h]
          omega
      · exact (b4.trans b48).new hF
    · rintro σ H4 ⟨x5, x6, x7, is, life, rfl, eF, hl, ha, hb, L0, L1, p4, b4⟩
      refine ⟨_, rfl, F, _, rfl, .inl ⟨SqL.of eF, fun r hr => ?_⟩⟩
      have hr0 := b4.free p4 hr
      refine k r is _ hr0 upd_same hl ha (fun y hy => by have := hb y hy; omega) ((p4.upd (p4.ne hr)).mono (by omega)) (fun b o e ne => ?_)
      rw [upd_ne (ne_of_none e hr0)]
      exact b4 b o e ne
theorem ok_ended (D : Df K mg "_law_ended" s_law_ended ["_law_pot_here", "_law_lives_here"]) (T : Bl mg) (C_law_take : Has P w K mg base 1 "_law_take" ["_law_pot_here", "_law_many"] spTake) : Has P w K mg base 2 "_law_ended" ["_law_pot_here", "_law_lives_here"] spEnded := by
  refine D.has sc_law_ended (fun vs H Q E h => ?_) (fun f cdv A outer s H vs Q E gd hr h => ?_)
  · obtain ⟨a, t, n, is, rfl, _⟩ := h
    rfl
  · obtain ⟨a, t, n, is, rfl, hp, hn, hS, h0, h1, ha, hb, k⟩ := h
    refine ⟨_, (pss_one (ps_ret (pe_ifExp (pt_cmpR op_eq (pe_has C_law_take gd (hr.mono (by decide)) rfl (pa_cons (pv 0) (pa_cons pe_int pa_nil))) pe_int (nomark _)) (pe_op op_catH (pe_slice sl_tupH (pv 1) po_none (po_some (pe_un un_neg pe_int))) (pe_tup (pa_cons pe_non pa_nil))) (pv 1)))), ?_⟩
    obtain ⟨ini, z, rfl⟩ : ∃ ini z, is = ini ++ [z] := ⟨is.dropLast, is.getLast (by intro z; rw [z] at h0; simp at h0), (List.dropLast_concat_getLast _).symm⟩
    have li : ini.length + 1 ≤ 61 := by
      rw [List.length_append] at h1
      exact h1
    refine ⟨_, rfl, a, n, 4, rfl, hp, by omega, by decide, by decide, fun d H1 u0 u1 p1 b1 => ⟨rfl, _, rfl, ?_⟩⟩
    have nta : t ≠ a := by
      obtain ⟨g, s, c, e, _⟩ := hp
      exact ne_of hS e (by intro z; cases z)
    have hS1 := b1 _ _ hS nta
    have em : (ini ++ [z]).map V.int = ini.map V.int ++ [V.int z] := by rw [List.map_append]; rfl
    refine ite2 (fun _ => ?_) (fun _ => ?_)
    · refine ⟨_, rfl, _, rfl, _, rfl, t, _, rfl, hS1, fun r H2 s2 e2 => ?_⟩
      rw [em, cut_init] at e2
      refine ⟨by show 1 ≤ sizeLine; decide, fun q hq => ?_⟩
      have e3 := same_upd (o := .tup [V.non]) hq _ _ e2
      refine ⟨r, q, _, _, rfl, rfl, e3, upd_same, ?_, fun u H4 s4 e4 => ?_⟩
      · rw [List.length_map]
        exact Nat.le_of_lt (small1000 (by show ini.length + 1 ≤ 1000; omega))
      · have s14 : Same H1 H4 := (s2.trans (same_upd hq)).trans s4
        refine k u (ini.map some ++ [none]) H4 ?_ (good_none (by omega) (fun y hy => hb y (List.mem_append_left _ hy)) (asc_init ha)) (by simp) (p1.same s14) (b1.trans (But.of s14))
        rw [e4, List.map_append, map_lv_some]
        rfl
    · refine ⟨_, rfl, ?_⟩
      refine k t (ini.map some ++ [some z]) H1 ?_ (good_ints (by omega) hb ha) (by simp) p1 b1
      rw [hS1, List.map_append, List.map_append, map_lv_some]
      rfl
end
abbrev s_law_enough : Stmt := (top 39)
abbrev N_law_enough : List Str := ["_law_life", "_law_number"]
theorem sc_law_enough : FnScope N_law_enough ["_law_life", "_law_number"] (defScope s_law_enough) :=
  ⟨rfl, rfl, rfl, by decide +kernel, rfl, by decide +kernel, by decide +kernel⟩
abbrev s_law_index : Stmt := (top 41)
abbrev N_law_index : List Str := ["_law_lives_here", "_law_age", "_law_index_here", "_law_life"]
theorem sc_law_index : FnScope N_law_index ["_law_lives_here", "_law_age"] (defScope s_law_index) :=
  ⟨rfl, rfl, rfl, by decide +kernel, rfl, by decide +kernel, by decide +kernel⟩
def spEnough : Sp := fun vs H Q _ => ∃ (x : Option Int) (n : Int), vs = [lv x, .int n] ∧ Q (.bl (leO (some n) x)) H
def spIndex (K : PySem.W.Frag) : Sp := fun vs H Q _ => ∃ (a : Addr) (ls : List (Option Int)) (far : Int), vs = [.ref a, .int far] ∧ SqT K H a (ls.map lv) ∧ ls.length ≤ 1000 ∧ ∀ H', Same H H' → Q (lvN (idx 0 ls far)) H'
def spWorstL (K : PySem.W.Frag) : Sp := fun vs H Q _ => ∃ (a : Addr) (ls : List (Option Int)) (far : Int), vs = [.ref a, .int far] ∧ SqT K H a (ls.map lv) ∧ ls.length ≤ 1000 ∧ ∀ H', Same H H' → Q (lv (due 0 ls far)) H'
section
variable {P : Program} {w : World} {K : PySem.W.Frag} {mg : Str → Option Value} {base : Heap}
theorem ok_enough (D : Df K mg "_law_enough" s_law_enough ["_law_life", "_law_number"]) : Has P w K mg base 1 "_law_enough" ["_law_life", "_law_number"] spEnough := by
  refine D.has sc_law_enough (fun vs H Q E h => ?_) (fun f cdv A outer s H vs Q E gd hr h => ?_)
  · obtain ⟨x, n, rfl, _⟩ := h
    rfl
  · obtain ⟨x, n, rfl, k⟩ := h
    refine ⟨_, (pss_one (ps_ret (pe_or (pe_cmpR op_isN (pv 0) pe_non (nomark _)) (pe_one (pe_cmpR op_ge (pv 0) (pv 1) (nomark _)))))), ?_⟩
    cases x with
    | none =>
      refine ⟨_, rfl, rfl, true, rfl, ?_⟩
      exact iteT k
    | some b =>
      refine ⟨_, rfl, rfl, false, rfl, ?_⟩
      refine iteF ?_
      exact ⟨_, rfl, _, rfl, _, _, rfl, rfl, k⟩
theorem ok_index (D : Df K mg "_law_index" s_law_index ["_law_lives_here", "_law_age"]) (T : Bl mg) (C_law_enough : Has P w K mg base 1 "_law_enough" ["_law_life", "_law_number"] spEnough) (C_law_two : Has P w K mg base 1 "_law_two" ["_law_index_here"] spTwo) : Has P w K mg base 2 "_law_index" ["_law_lives_here", "_law_age"] (spIndex K) := by
  refine D.has sc_law_index (fun vs H Q E h => ?_) (fun f cdv A outer s H vs Q E gd hr h => ?_)
  · obtain ⟨a, ls, far, rfl, _⟩ := h
    rfl
  · obtain ⟨a, ls, far, rfl, hS, hl, k⟩ := h
    refine ⟨_, (pss_cons (ps_for PassesOwn.never rfl (pi_enumT rfl T.enumerate (pa_cons (pv 0) pa_nil)) (pg_tup rfl (pgs_cons (pg_name (i := 2) sc_law_index.nd rfl (Or.inl rfl)) (pgs_cons (pg_name (i := 3) sc_law_index.nd rfl (Or.inl rfl)) pgs_nil))) (pss_one (ps_if (pt_val (pe_has C_law_enough gd (hr.mono (by decide)) rfl (pa_cons (pv 3) (pa_cons (pe_op op_add (pv 1) (pe_has C_law_two gd (hr.mono (by decide)) rfl (pa_cons (pv 2) pa_nil))) pa_nil)))) (pss_one (ps_ret (pv 2))) pss_nil)))
      (pss_one (ps_ret pe_non))), ?_⟩
    refine ⟨_, rfl, a, _, rfl, hS, for_it (walk_enumT (xs := ls.map lv)) (fun i σ H' => Same H H' ∧ ∃ v1 v2, σ = [some (.ref a), some (.int far), v1, v2] ∧ idx 0 ls far = idx i (ls.drop i) far) ⟨Same.refl _, none, none, rfl, rfl⟩ (fun i σ H' _ z => SqT.same z.1 hS) ?_ ?_⟩
    · rintro i x σ H1 H2 hi ⟨sm, v1, v2, rfl, e⟩ ⟨t, y0, y1, rfl, ht, rfl, hy0, hy1⟩
      obtain rfl : V.int (i : Nat) = y0 := Option.some.inj hy0
      obtain ⟨l, hll, rfl⟩ := map_at hy1
      have hi2 := (List.getElem?_eq_some_iff.mp hll).1
      rw [drop_cons hll] at e
      have eu : idx i (l :: ls.drop (i + 1)) far = if leO (some (far + 2 ^ i)) l = true then some i else idx (i + 1) (ls.drop (i + 1)) far := rfl
      rw [eu] at e
      have sm2 := sm.trans (same_upd (o := .tup [V.int (i : Nat), lv l]) ht)
      refine ⟨t, _, rfl, SqT.of upd_same, rfl, _, _, rfl, _, _, rfl, rfl, ?_⟩
      refine ⟨_, rfl, _, rfl, _, rfl, i, rfl, by omega, _, _, rfl, rfl, l, _, rfl, _, rfl, ?_⟩
      refine ite2 (fun hc => ?_) (fun hc => ?_)
      · rw [if_pos hc] at e
        refine ⟨_, rfl, ?_⟩
        have q := k _ sm2
        rw [e] at q
        exact q
      · rw [if_neg hc] at e
        exact ⟨sm2, _, _, rfl, e⟩
    · rintro σ H1 ⟨sm, v1, v2, rfl, e⟩
      rw [List.length_map, List.drop_length] at e
      have q := k _ sm
      rw [e] at q
      exact q
end
abbrev s_law_wish : Stmt := (top 42)
abbrev N_law_wish : List Str := ["_law_pot_here", "_law_many", "_law_great", "_law_far", "_law_found", "_law_age", "_law_gap_here", "_law_turn", "_law_step"]
theorem sc_law_wish : FnScope N_law_wish ["_law_pot_here", "_law_many", "_law_great", "_law_far"] (defScope s_law_wish) :=
  ⟨rfl, rfl, rfl, by decide +kernel, rfl, by decide +kernel, by decide +kernel⟩
def spWish : Sp := fun vs H Q _ => ∃ (a : Addr) (n m : Nat) (g f : Int), vs = [.ref a, .int (m : Nat), .int g, .int f] ∧ PotAt H a n ∧ n < 500000 ∧ 1 ≤ m ∧ m ≤ 12 ∧ 0 ≤ g ∧ g ≤ 10 ^ 17 ∧ 0 ≤ f ∧ f ≤ 10 ^ 17 ∧
  ∀ (W : Addr) (xs : List V) (ws : List (Int × Int)) (H' : Hp), H' W = some (.tup xs) → TAt H' xs (ws.map wV) → WOk ws → ws.length ≤ m → (∀ p ∈ ws, p.1 ≤ ((m : Int) + 1) * (g + 2)) → PotAt H' a (n + 100) → But a H H' → Q (.ref W) H'
theorem wV_get {H : Hp} {xs : List V} {ws : List (Int × Int)} (ta : TAt H xs (ws.map wV)) {i : Nat} {x : V} (hx : xs[i]? = some x) : ∃ t p, x = .ref t ∧ ws[i]? = some p ∧ H t = some (.tup [.int p.1, .int p.2]) := by
  obtain ⟨t, y, ex, hy, ht⟩ := ta.get hx
  rw [List.getElem?_map] at hy
  cases e : ws[i]? with
  | none => rw [e] at hy; cases hy
  | some p =>
    rw [e] at hy
    have e2 : wV p = y := Option.some.inj hy
    exact ⟨t, p, ex, rfl, by rw [← e2] at ht; exact ht⟩
section
variable {P : Program} {w : World} {K : PySem.W.Frag} {mg : Str → Option Value} {base : Heap}
theorem ok_wish (D : Df K mg "_law_wish" s_law_wish ["_law_pot_here", "_law_many", "_law_great", "_law_far"]) (T : Bl mg) (C_law_take : Has P w K mg base 1 "_law_take" ["_law_pot_here", "_law_many"] spTake) (C_law_of : Has P w K mg base 2 "_law_of" ["_law_pot_here", "_law_some"] (spPick K)) : Has P w K mg base 3 "_law_wish" ["_law_pot_here", "_law_many", "_law_great", "_law_far"] spWish := by
  refine D.has sc_law_wish (fun vs H Q E h => ?_) (fun fa cdv A outer s H vs Q E gd hr h => ?_)
  · obtain ⟨a, n, m, g, f, rfl, _⟩ := h
    rfl
  · obtain ⟨a, n, m, g, f, rfl, hp, hn, m0, m1, g0, g1, f0, f1, k⟩ := h
    have gb : (g + 1).natAbs < 2 ^ 600 := small600 (by omega) (by omega)
    have fb : (f + 1).natAbs < 2 ^ 600 := small600 (by omega) (by omega)
    refine ⟨_, (pss_cons (ps_par (i := 4) (j := 5) rfl sc_law_wish.nd rfl rfl (by decide) rfl rfl (pa_cons (pe_lst pa_nil) (pa_cons (pe_has C_law_of gd (hr.mono (by decide)) rfl (pa_cons (pv 0) (pa_cons (pe_lst (pa_cons pe_int (pa_cons pe_int (pa_cons (pe_has C_law_take gd (hr.mono (by decide)) rfl (pa_cons (pv 0) (pa_cons (pe_op op_add (pv 2) pe_int) pa_nil))) pa_nil)))) pa_nil))) pa_nil)) (by rfl))
      (pss_cons (ps_set (i := 6) sc_law_wish.nd rfl (Or.inl rfl) (pe_has C_law_of gd (hr.mono (by decide)) rfl (pa_cons (pv 0) (pa_cons (pe_lst (pa_cons pe_int (pa_cons pe_int (pa_cons pe_int (pa_cons (pe_has C_law_take gd (hr.mono (by decide)) rfl (pa_cons (pv 0) (pa_cons (pe_op op_add (pv 3) pe_int) pa_nil))) pa_nil))))) pa_nil))))
      (pss_cons (ps_for PassesOwn.never rfl (pi_range1 rfl T.range (pa_cons (pv 1) pa_nil)) (pg_name (i := 7) sc_law_wish.nd rfl (Or.inl rfl)) (pss_cons (ps_expr (pe_bm PySem.F.plainAttrs_list PySem.F.slot_list_append PySem.F.type_list_append mt_append (pv 4) (pa_cons (pe_tup (pa_cons (pv 5) (pa_cons (pv 6) pa_nil))) pa_nil)))
      (pss_cons (ps_set (i := 5) sc_law_wish.nd rfl (Or.inl rfl) (pe_op op_add (pe_op op_add (pv 5) pe_int) (pe_has C_law_of gd (hr.mono (by decide)) rfl (pa_cons (pv 0) (pa_cons (pe_lst (pa_cons pe_int (pa_cons pe_int (pa_cons (pe_has C_law_take gd (hr.mono (by decide)) rfl (pa_cons (pv 0) (pa_cons (pe_op op_add (pv 2) pe_int) pa_nil))) pa_nil)))) pa_nil)))))
      (pss_one (ps_set (i := 6) sc_law_wish.nd rfl (Or.inl rfl) (pe_op op_add (pe_op op_add (pv 6) pe_int) (pe_has C_law_of gd (hr.mono (by decide)) rfl (pa_cons (pv 0) (pa_cons (pe_lst (pa_cons pe_int (pa_cons pe_int (pa_cons (pv 6) (pa_cons (pe_has C_law_take gd (hr.mono (by decide)) rfl (pa_cons (pv 0) (pa_cons (pe_op op_add (pv 3) pe_int) pa_nil))) pa_nil))))) pa_nil)))))))))
      (pss_one (ps_ret (pe_callTy call_tuple_of (by rfl) T.tuple (by decide +kernel) (pa_cons (pe_lc (own := [("_law_step", 8)]) (g := gName 8) rfl sc_law_wish.nd (pi_list (pv 4)) (blkOk_by (N := N_law_wish) (sc := defScope s_law_wish) (by decide +kernel)) (fun _ _ _ _ _ => pg_name (i := 8) sc_law_wish.nd rfl (Or.inl rfl)) (fun _ _ _ _ _ => (pts_one (PW.pt (pw_and (pt_cmpR op_le (pe_ix (ix_tupK (K := K) rfl) (pv 8) pe_int (fun _ _ => rfl)) (pe_op op_pow pe_int pe_int) (nomark _)) (pw_and1 (pt_cmpR op_le (pe_ix (ix_tupK (K := K) rfl) (pv 8) pe_int (fun _ _ => rfl)) (pe_op op_pow pe_int pe_int) (nomark _))))))) (fun _ _ _ _ _ => (pv 8))) pa_nil))))))), ?_⟩
    refine ⟨Nat.zero_le _, fun F hF => ?_⟩
    have nFa : F ≠ a := (hp.ne hF).symm
    refine ⟨_, rfl, _, rfl, _, rfl, _, _, rfl, rfl, a, n, _, rfl, hp.same (same_upd hF), by omega, by omega, gb, fun d1 H1 u0 u1 p1 b1 => ?_⟩
    refine ⟨by show 3 ≤ sizeLine; decide, fun M hM => ?_⟩
    refine ⟨a, M, _, _, rfl, p1.same (same_upd hM), by omega, SqL.of upd_same, (p1.ne hM).symm, by show 0 < 3; decide, by show 3 ≤ 1000; decide, fun v H2 hv p2 b2 => ?_⟩
    obtain ⟨a0, rfl, a00, a01⟩ : ∃ z : Int, v = .int z ∧ 0 ≤ z ∧ z ≤ g := by
      rcases List.mem_cons.mp hv with rfl | hv
      · exact ⟨_, rfl, by decide, by omega⟩
      rcases List.mem_cons.mp hv with rfl | hv
      · exact ⟨_, rfl, by decide, by omega⟩
      · rw [List.mem_singleton.mp hv]
        exact ⟨_, rfl, u0, by omega⟩
    refine ⟨_, _, rfl, ?_⟩
    refine ⟨_, rfl, _, rfl, _, rfl, _, _, rfl, rfl, a, _, _, rfl, p2, by omega, by omega, fb, fun d3 H3 w0 w1 p3 b3 => ?_⟩
    refine ⟨by show 4 ≤ sizeLine; decide, fun M2 hM2 => ?_⟩
    refine ⟨a, M2, _, _, rfl, p3.same (same_upd hM2), by omega, SqL.of upd_same, (p3.ne hM2).symm, by show 0 < 4; decide, by show 4 ≤ 1000; decide, fun v H4 hv p4 b4 => ?_⟩
    obtain ⟨q0, rfl, q00, q01⟩ : ∃ z : Int, v = .int z ∧ 0 ≤ z ∧ z ≤ 10 ^ 17 := by
      rcases List.mem_cons.mp hv with rfl | hv
      · exact ⟨_, rfl, by decide, by decide⟩
      rcases List.mem_cons.mp hv with rfl | hv
      · exact ⟨_, rfl, by decide, by decide⟩
      rcases List.mem_cons.mp hv with rfl | hv
      · exact ⟨_, rfl, by decide, by decide⟩
      · rw [List.mem_singleton.mp hv]
        exact ⟨_, rfl, w0, by omega⟩
    have eF4 : H4 F = some (.lst []) := b4 _ _ (same_upd hM2 _ _ (b3 _ _ (b2 _ _ (same_upd hM _ _ (b1 _ _ upd_same nFa)) nFa) nFa)) nFa
    have b04 : But a H H4 := ((But.of (same_upd hF)).trans b1).trans (((But.of (same_upd hM)).trans b2).trans (b3.trans ((But.of (same_upd hM2)).trans b4)))
    refine ⟨_, rfl, (m : Int), rfl, by omega, by omega, ?_⟩
    refine for_range (n := m) (fun i σ H' => ∃ (x7 : Option V) (ag gp : Int) (xs : List V) (fs : List (Int × Int)), σ = [some (.ref a), some (.int (m : Nat)), some (.int g), some (.int f), some (.ref F), some (.int ag), some (.int gp), x7, none] ∧ H' F = some (.lst xs) ∧ TAt H' xs (fs.map wV) ∧ fs.length = i ∧
      (fs.Pairwise fun p q => p.1 < q.1 ∧ p.2 < q.2) ∧ (∀ p ∈ fs, 0 ≤ p.1 ∧ 0 ≤ p.2 ∧ p.1 < ag ∧ p.2 < gp) ∧ 0 ≤ ag ∧ 0 ≤ gp ∧ ag ≤ ((i : Int) + 1) * (g + 2) ∧ (i = 0 → ag = a0 ∧ gp = q0) ∧ (0 < i → fs.head? = some (a0, q0)) ∧ PotAt H' a (n + 4 + 4 * i) ∧ But a H H')
      ⟨none, a0, q0, [], [], rfl, eF4, trivial, rfl, List.Pairwise.nil, (fun p hp => nomatch hp), a00, q00, by show a0 ≤ (((0 : Nat) : Int) + 1) * (g + 2); rw [show (((0 : Nat) : Int) + 1) = 1 from rfl, Int.one_mul]; omega, fun _ => ⟨rfl, rfl⟩, fun z => absurd z (by decide), p4.mono (by omega), b04⟩ ?_ ?_
    · rintro i σ H5 hi ⟨x7, ag, gp, xs, fs, rfl, eF, ta, fl, asc, fbd, ag0, gp0, agb, h0, h1, p5, b5⟩
      refine ⟨_, rfl, .inl ⟨rfl, _, SqL.of eF⟩, _, rfl, _, rfl, by show 2 ≤ sizeLine; decide, fun p hp => ?_⟩
      have nFp : F ≠ p := ne_of_none eF hp
      refine ⟨F, _, _, rfl, rfl, same_upd hp _ _ eF, small1000 (by rw [ta.length, List.length_map]; omega), ?_⟩
      have ta6 : TAt (upd (upd H5 p (.tup [.int ag, .int gp])) F (.lst (xs ++ [V.ref p]))) (xs ++ [V.ref p]) ((fs ++ [(ag, gp)]).map wV) := by
        rw [List.map_append]
        exact TAt.snoc (by rw [upd_ne nFp.symm]; exact upd_same) ((ta.same (same_upd hp)).upd (same_upd hp _ _ eF))
      have p6 : PotAt (upd (upd H5 p (.tup [.int ag, .int gp])) F (.lst (xs ++ [V.ref p]))) a (n + 4 + 4 * i) := (p5.same (same_upd hp)).upd nFa.symm
      have eF6 : upd (upd H5 p (.tup [.int ag, .int gp])) F (.lst (xs ++ [V.ref p])) F = some (.lst (xs ++ [V.ref p])) := upd_same
      have b6 : But a H (upd (upd H5 p (.tup [.int ag, .int gp])) F (.lst (xs ++ [V.ref p]))) := (b5.trans (But.of (same_upd hp))).new hF
      generalize upd (upd H5 p (.tup [.int ag, .int gp])) F (.lst (xs ++ [V.ref p])) = H6 at *
      -- the next age
      refine ⟨_, rfl, _, _, rfl, rfl, _, rfl, _, rfl, _, rfl, _, _, rfl, rfl, a, _, _, rfl, p6, by omega, by omega, gb, fun d7 H7 y0 y1 p7 b7 => ?_⟩
      refine ⟨by show 3 ≤ sizeLine; decide, fun N hN => ?_⟩
      refine ⟨a, N, _, _, rfl, p7.same (same_upd hN), by omega, SqL.of upd_same, (p7.ne hN).symm, by show 0 < 3; decide, by show 3 ≤ 1000; decide, fun v H8 hv p8 b8 => ?_⟩
      obtain ⟨z1, rfl, z10, z11⟩ : ∃ z : Int, v = .int z ∧ 0 ≤ z ∧ z ≤ max 1 g := by
        rcases List.mem_cons.mp hv with rfl | hv
        · exact ⟨_, rfl, by decide, by omega⟩
        rcases List.mem_cons.mp hv with rfl | hv
        · exact ⟨_, rfl, by decide, by omega⟩
        · rw [List.mem_singleton.mp hv]
          exact ⟨_, rfl, y0, by omega⟩
      refine ⟨_, _, rfl, rfl, ?_⟩
      -- the next distance
      refine ⟨_, rfl, _, _, rfl, rfl, _, rfl, _, rfl, _, rfl, _, rfl, _, _, rfl, rfl, a, _, _, rfl, p8, by omega, by omega, fb, fun d9 H9 t0 t1 p9 b9 => ?_⟩
      refine ⟨by show 4 ≤ sizeLine; decide, fun N2 hN2 => ?_⟩
      refine ⟨a, N2, _, _, rfl, p9.same (same_upd hN2), by omega, SqL.of upd_same, (p9.ne hN2).symm, by show 0 < 4; decide, by show 4 ≤ 1000; decide, fun v HA hv pA bA => ?_⟩
      obtain ⟨z2, rfl, z20⟩ : ∃ z : Int, v = .int z ∧ 0 ≤ z := by
        rcases List.mem_cons.mp hv with rfl | hv
        · exact ⟨_, rfl, by decide⟩
        rcases List.mem_cons.mp hv with rfl | hv
        · exact ⟨_, rfl, by decide⟩
        rcases List.mem_cons.mp hv with rfl | hv
        · exact ⟨_, rfl, gp0⟩
        · rw [List.mem_singleton.mp hv]
          exact ⟨_, rfl, t0⟩
      have b6A : But a H6 HA := (b7.trans ((But.of (same_upd hN)).trans b8)).trans (b9.trans ((But.of (same_upd hN2)).trans bA))
      have taA : TAt HA (xs ++ [V.ref p]) ((fs ++ [(ag, gp)]).map wV) := ta6.keep fun t ys e => b6A _ _ e (ne_of e p6.choose_spec.choose_spec.choose_spec.1 (by intro z; cases z))
      refine ⟨_, _, rfl, rfl, _, ag + 1 + z1, gp + 1 + z2, xs ++ [V.ref p], fs ++ [(ag, gp)], rfl, b6A _ _ eF6 nFa, taA, by rw [List.length_append, fl]; rfl, ?_, ?_, by omega, by omega, ?_, fun z => absurd z (by omega), fun _ => ?_, pA.mono (by omega), b6.trans b6A⟩
      · refine List.pairwise_append.mpr ⟨asc, List.pairwise_singleton _ _, fun x hx y hy => ?_⟩
        rw [List.mem_singleton.mp hy]
        exact ⟨(fbd x hx).2.2.1, (fbd x hx).2.2.2⟩
      · intro x hx
        rcases List.mem_append.mp hx with h | h
        · have := fbd x h
          omega
        · rw [List.mem_singleton.mp h]
          show 0 ≤ ag ∧ 0 ≤ gp ∧ ag < ag + 1 + z1 ∧ gp < gp + 1 + z2
          omega
      · have em : (((i + 1 : Nat) : Int) + 1) * (g + 2) = ((i : Int) + 1) * (g + 2) + (g + 2) := by
          rw [show (((i + 1 : Nat) : Int) + 1) = ((i : Int) + 1) + 1 from rfl, Int.add_mul, Int.one_mul]
        rw [em]
        omega
      · by_cases z : i = 0
        · subst z
          have ef : fs = [] := List.length_eq_zero_iff.mp fl
          obtain ⟨e1, e2⟩ := h0 rfl
          rw [ef, e1, e2]
          rfl
        · have h2 := h1 (by omega)
          rw [List.head?_append, h2]
          rfl
    · rintro σ H5 ⟨x7, ag, gp, xs, fs, rfl, eF, ta, fl, asc, fbd, ag0, gp0, agb, h0, h1, p5, b5⟩
      have hh := h1 (by omega)
      refine ⟨_, rfl, F, rfl, ⟨_, SqL.of eF⟩, fun D2 hD2 => lc_list (xs := xs) (fun i H' => Same H5 H' ∧ ∃ zs, H' D2 = some (.lst zs) ∧ TAt H' zs (((fs.take i).filter fun p => decide (p.1 ≤ 10 ^ 18 ∧ p.2 ≤ 10 ^ 18)).map wV)) ⟨same_upd hD2, [], upd_same, trivial⟩ (fun i H' _ z => SqL.of (z.1 _ _ eF)) ?_ ?_⟩
      · rintro i x H6 hx ⟨s6, zs, eD, tz⟩
        obtain ⟨t, p, rfl, hpi, ht⟩ := wV_get ta hx
        have ht6 := s6 _ _ ht
        have et : fs.take (i + 1) = fs.take i ++ [p] := by rw [List.take_add_one, hpi]; rfl
        have hil := (List.getElem?_eq_some_iff.mp hpi).1
        have zl : zs.length ≤ 12 := by
          have h2 := List.length_filter_le (fun p : Int × Int => decide (p.1 ≤ 10 ^ 18 ∧ p.2 ≤ 10 ^ 18)) (fs.take i)
          rw [List.length_take] at h2
          rw [tz.length, List.length_map]
          omega
        refine ⟨rfl, _, rfl, t, _, _, _, rfl, rfl, SqT.of ht6, rfl, _, _, rfl, rfl, ⟨by decide, by decide, by decide⟩, _, _, rfl, rfl, _, rfl, ?_⟩
        have no : ¬ (p.1 ≤ 10 ^ 18 ∧ p.2 ≤ 10 ^ 18) → ∃ zs, H6 D2 = some (.lst zs) ∧ TAt H6 zs (((fs.take (i + 1)).filter fun p => decide (p.1 ≤ 10 ^ 18 ∧ p.2 ≤ 10 ^ 18)).map wV) := fun hc => by
          rw [et, List.filter_append, filter_no (fun p : Int × Int => decide (p.1 ≤ 10 ^ 18 ∧ p.2 ≤ 10 ^ 18)) (decide_eq_false hc), List.append_nil]
          exact ⟨zs, eD, tz⟩
        refine ite2 (fun c1 => ?_) (fun c1 => ⟨s6, no fun z => c1 (decide_eq_true z.1)⟩)
        refine ⟨_, rfl, t, _, _, _, rfl, rfl, SqT.of ht6, rfl, _, _, rfl, rfl, ⟨by decide, by decide, by decide⟩, _, _, rfl, rfl, _, rfl, ?_⟩
        refine ite2 (fun c2 => ?_) (fun c2 => ⟨s6, no fun z => c2 (decide_eq_true z.2)⟩)
        have hc : p.1 ≤ 10 ^ 18 ∧ p.2 ≤ 10 ^ 18 := ⟨of_decide_eq_true c1, of_decide_eq_true c2⟩
        refine ⟨_, rfl, zs, eD, by rw [sizeLine_eq]; omega, fun b o z => ?_, zs ++ [V.ref t], upd_same, ?_⟩
        · rw [upd_ne (ne_of_none z hD2)]
          exact s6 b o z
        · rw [et, List.filter_append, filter_yes (fun p : Int × Int => decide (p.1 ≤ 10 ^ 18 ∧ p.2 ≤ 10 ^ 18)) (decide_eq_true hc), List.map_append]
          exact TAt.snoc (by rw [upd_ne (ne_of eD ht6 (by intro z; cases z)).symm]; exact ht6) (tz.upd eD)
      · rintro H6 ⟨s6, zs, eD, tz⟩
        have e0 : xs.length = fs.length := by rw [ta.length, List.length_map]
        rw [e0, List.take_length] at tz
        have ok : WOk (fs.filter fun p => decide (p.1 ≤ 10 ^ 18 ∧ p.2 ≤ 10 ^ 18)) := by
          refine ⟨fun p hp => ?_, asc.filter _, ?_, Nat.le_trans (List.length_filter_le _ _) (by omega)⟩
          · have h := List.mem_filter.mp hp
            have h2 := fbd p h.1
            have h3 := of_decide_eq_true h.2
            exact ⟨h2.1, h3.1, h2.2.1, h3.2⟩
          · refine List.length_pos_of_mem (a := (a0, q0)) (List.mem_filter.mpr ⟨List.mem_of_mem_head? hh, decide_eq_true ⟨?_, ?_⟩⟩)
            · show a0 ≤ 10 ^ 18
              omega
            · show q0 ≤ 10 ^ 18
              omega
        have ln : (fs.filter fun p => decide (p.1 ≤ 10 ^ 18 ∧ p.2 ≤ 10 ^ 18)).length ≤ m := Nat.le_trans (List.length_filter_le _ _) (by omega)
        have bd : ∀ p ∈ fs.filter fun p => decide (p.1 ≤ 10 ^ 18 ∧ p.2 ≤ 10 ^ 18), p.1 ≤ ((m : Int) + 1) * (g + 2) := fun p hp => by
          have h := (fbd p (List.mem_filter.mp hp).1).2.2.1
          omega
        have p6 := p5.same s6
        have b6 := b5
        generalize (fs.filter fun p => decide (p.1 ≤ 10 ^ 18 ∧ p.2 ≤ 10 ^ 18)) = ws at *
        have zl : zs.length ≤ 12 := by
          have := ok.most
          rw [tz.length, List.length_map]
          omega
        exact ⟨D2, zs, rfl, .inl ⟨SqL.of eD, fun l hl => k l zs ws _ upd_same (tz.same (same_upd hl)) ok ln bd ((p6.same (same_upd hl)).mono (by omega)) (b6.trans ((But.of s6).trans (But.of (same_upd hl))))⟩⟩
end
abbrev s_law_gap : Stmt := (top 40)
abbrev N_law_gap : List Str := ["_law_lives_here", "_law_time", "_law_age", "_law_found", "_law_end", "_law_last", "_law_index_here", "_law_size", "_law_point"]
theorem sc_law_gap : FnScope N_law_gap ["_law_lives_here", "_law_time", "_law_age"] (defScope s_law_gap) :=
  ⟨rfl, rfl, rfl, by decide +kernel, rfl, by decide +kernel, by decide +kernel⟩
def spGap : Sp := fun vs H Q _ => ∃ (S : Addr) (t a : Int) (ls : List (Option Int)), vs = [.ref S, .int t, .int a] ∧ H S = some (.tup (ls.map lv)) ∧ Good ls ∧ 0 ≤ a ∧ a ≤ t ∧ ∀ H', Same H H' → Q (lv (distO ls t a)) H'
theorem gapL_len (ls : List (Option Int)) (t e : Int) (n : Nat) : (gapL ls t e n).length ≤ n := by
  have := List.length_filterMap_le (gapF ls t e) (List.range n)
  rw [List.length_range] at this
  exact this
theorem eqv_nil (xs : List Int) : PyData.eqv (.list (xs.map PyData.int)) (.list []) = decide (xs = []) := by
  cases xs <;> rfl
section
variable {P : Program} {w : World} {K : PySem.W.Frag} {mg : Str → Option Value} {base : Heap}
theorem ok_gap (D : Df K mg "_law_gap" s_law_gap ["_law_lives_here", "_law_time", "_law_age"]) (T : Bl mg) (C_law_two : Has P w K mg base 1 "_law_two" ["_law_index_here"] spTwo) (C_law_enough : Has P w K mg base 1 "_law_enough" ["_law_life", "_law_number"] spEnough) : Has P w K mg base 2 "_law_gap" ["_law_lives_here", "_law_time", "_law_age"] spGap := by
  refine D.has sc_law_gap (fun vs H Q E h => ?_) (fun f cdv A outer s H vs Q E gd hr h => ?_)
  · obtain ⟨S, t, a, ls, rfl, _⟩ := h
    rfl
  · obtain ⟨S, t, a, ls, rfl, hS, g, h0, h1, k⟩ := h
    have hl61 := g.most
    have hpos := g.pos
    have gd1 := gap_dist g h0 h1
    refine ⟨_, (pss_cons (ps_par3 (i := 3) (j := 4) (l := 5) rfl sc_law_gap.nd rfl rfl rfl (by decide) (by decide) (by decide) rfl rfl rfl (pa_cons (pe_lst pa_nil) (pa_cons (pe_op op_sub (pv 1) (pv 2)) (pa_cons (pe_op op_sub (pe_callB call_len_seq (by rfl) T.len PySem.boot_len (pa_cons (pv 0) pa_nil)) pe_int) pa_nil))) (by rfl))
      (pss_cons (ps_for PassesOwn.never rfl (pi_range1 rfl T.range (pa_cons (pe_callB call_len_seq (by rfl) T.len PySem.boot_len (pa_cons (pv 0) pa_nil)) pa_nil)) (pg_name (i := 6) sc_law_gap.nd rfl (Or.inl rfl)) (pss_cons (ps_set (i := 7) sc_law_gap.nd rfl (Or.inl rfl) (pe_has C_law_two gd (hr.mono (by decide)) rfl (pa_cons (pv 6) pa_nil)))
      (pss_cons (ps_set (i := 8) sc_law_gap.nd rfl (Or.inl rfl) (pe_ifExp (pt_cmpR op_eq (pv 6) (pv 5) (nomark _)) (pe_op op_sub (pv 4) (pe_op op_mod (pv 4) (pv 7))) (pe_op op_sub (pv 4) (pe_op op_mod (pe_op op_sub (pv 4) (pv 7)) (pe_op op_mul pe_int (pv 7))))))
      (pss_one (ps_if (PW.pt (pw_and (PW.pt (pw_or (pt_cmpR op_eq (pv 6) (pv 5) (nomark _)) (pw_or1 (pt_cmpR op_ge (pv 4) (pv 7) (nomark _))))) (pw_and1 (pt_val (pe_has C_law_enough gd (hr.mono (by decide)) rfl (pa_cons (pe_ix ix_tup (pv 0) (pv 6) (fun _ _ => rfl)) (pa_cons (pe_op op_add (pe_op op_sub (pv 1) (pv 8)) pe_int) pa_nil))))))) (pss_one (ps_expr (pe_bm PySem.F.plainAttrs_list PySem.F.slot_list_append PySem.F.type_list_append mt_append (pv 3) (pa_cons (pe_op op_sub (pv 4) (pv 8)) pa_nil)))) pss_nil)))))
      (pss_one (ps_ret (pe_ifExp (pt_cmpR (op_neD hr.units) (pv 3) (pe_lst pa_nil) (nomark _)) (pe_callB (cr_min rfl) (by rfl) T.min (by decide +kernel) (pa_cons (pv 3) pa_nil)) pe_non))))), ?_⟩
    refine ⟨Nat.zero_le _, fun F hF => ?_⟩
    have hS0 := same_upd (o := .lst []) hF _ _ hS
    refine ⟨_, rfl, _, rfl, _, _, rfl, rfl, _, rfl, S, _, rfl, .inr (SqT.of hS0), _, _, rfl, rfl, _, _, _, rfl, ?_⟩
    have el : (((ls.map lv).length : Nat) : Int) = (ls.length : Int) := by rw [List.length_map]
    refine ⟨_, rfl, S, _, rfl, .inr (SqT.of hS0), (ls.length : Int), congrArg (fun z => [V.int z]) el, by omega, by omega, ?_⟩
    obtain ⟨e, he⟩ : ∃ e, e = t - a := ⟨_, rfl⟩
    refine for_range (n := ls.length) (fun i σ H' => Same H H' ∧ ∃ v6 v7 v8, σ = [some (.ref S), some (.int t), some (.int a), some (.ref F), some (.int e), some (.int (((ls.map lv).length : Int) - 1)), v6, v7, v8] ∧ H' F = some (.lst ((gapL ls t e i).map V.int))) ⟨same_upd hF, none, none, none, by rw [he]; rfl, upd_same⟩ ?_ ?_
    · rintro i σ H1 hi ⟨sm, v6, v7, v8, rfl, eF⟩
      have hS1 := sm _ _ hS
      have p2 := pow2_pos i
      have eat : (ls.map lv)[i]? = some (lv (lifeAt ls i)) := by
        have e1 := List.getElem?_eq_getElem hi
        rw [List.getElem?_map, e1, lifeAt_lt e1]
        rfl
      refine ⟨_, rfl, i, by rw [Int.zero_add]; rfl, by omega, ?_⟩
      refine ⟨_, rfl, _, rfl, rfl, _, rfl, ?_⟩
      refine ite2 (fun hc => ?_) (fun hc => ?_)
      · have hc' : i = ls.length - 1 := by
          have z := of_decide_eq_true hc
          have z2 : (0 : Int) + (i : Int) = (((ls.map lv).length : Nat) : Int) - 1 := by injection z
          omega
        have ep : gapP ls.length e i = e - e % 2 ^ i := if_pos hc'
        refine ⟨_, rfl, _, rfl, _, rfl, _, _, rfl, rfl, p2, _, _, rfl, rfl, ?_⟩
        refine ⟨_, rfl, _, rfl, rfl, _, rfl, ?_⟩
        refine ite2 (fun _ => ?_) (fun z => absurd hc z)
        refine ⟨_, rfl, _, rfl, S, _, _, _, rfl, rfl, SqT.of hS1, at_of (j := i) (by rw [Int.zero_add]) eat, ?_⟩
        refine ⟨_, rfl, _, rfl, _, _, rfl, rfl, _, _, rfl, rfl, lifeAt ls i, _, rfl, _, rfl, ?_⟩
        refine ite2 (fun hc => ?_) (fun hc => ?_)
        · have hq' : leO (some (t - (e - e % 2 ^ i) + 1)) (lifeAt ls i) = true := hc
          refine ⟨_, rfl, .inl ⟨rfl, _, SqL.of eF⟩, _, rfl, _, rfl, _, _, rfl, rfl, F, _, _, rfl, rfl, eF, small1000 (by rw [List.length_map]; have := gapL_len ls t e i; omega), ?_⟩
          refine ⟨fun b o z => by rw [upd_ne (ne_of_none z hF)]; exact sm b o z, _, _, _, rfl, ?_⟩
          have ef : gapF ls t e i = some (e - (e - e % 2 ^ i)) := by
            unfold gapF
            rw [ep]
            exact if_pos ⟨.inl hc', hq'⟩
          rw [upd_same, gapL_succ, ef, List.map_append]
          rfl
        · have hq' : ¬ leO (some (t - (e - e % 2 ^ i) + 1)) (lifeAt ls i) = true := hc
          have ef : gapF ls t e i = none := by
            unfold gapF
            rw [ep]
            exact if_neg fun z => hq' z.2
          refine ⟨sm, _, _, _, rfl, ?_⟩
          rw [gapL_succ, ef, eF]
          simp
      · have hc' : ¬ i = ls.length - 1 := by
          intro z
          refine hc (decide_eq_true ?_)
          show V.int (0 + (i : Int)) = V.int ((((ls.map lv).length : Nat) : Int) - 1)
          congr 1
          omega
        have ep : gapP ls.length e i = e - (e - 2 ^ i) % (2 * 2 ^ i) := if_neg hc'
        refine ⟨_, rfl, _, rfl, _, rfl, _, _, rfl, rfl, _, rfl, _, _, rfl, rfl, .inl ⟨by decide, by decide⟩, _, _, rfl, rfl, (by show (0 : Int) < 2 * 2 ^ i; omega), _, _, rfl, rfl, ?_⟩
        refine ⟨_, rfl, _, rfl, rfl, _, rfl, ?_⟩
        refine ite2 (fun z => absurd z hc) (fun _ => ?_)
        refine ⟨_, rfl, _, rfl, _, _, rfl, rfl, _, rfl, ?_⟩
        refine ite2 (fun hd => ?_) (fun hd => ?_)
        · have hd' : 2 ^ i ≤ e := of_decide_eq_true hd
          refine ⟨_, rfl, _, rfl, S, _, _, _, rfl, rfl, SqT.of hS1, at_of (j := i) (by rw [Int.zero_add]) eat, ?_⟩
          refine ⟨_, rfl, _, rfl, _, _, rfl, rfl, _, _, rfl, rfl, lifeAt ls i, _, rfl, _, rfl, ?_⟩
          refine ite2 (fun hc => ?_) (fun hc => ?_)
          · have hq' : leO (some (t - (e - (e - 2 ^ i) % (2 * 2 ^ i)) + 1)) (lifeAt ls i) = true := hc
            refine ⟨_, rfl, .inl ⟨rfl, _, SqL.of eF⟩, _, rfl, _, rfl, _, _, rfl, rfl, F, _, _, rfl, rfl, eF, small1000 (by rw [List.length_map]; have := gapL_len ls t e i; omega), ?_⟩
            refine ⟨fun b o z => by rw [upd_ne (ne_of_none z hF)]; exact sm b o z, _, _, _, rfl, ?_⟩
            have ef : gapF ls t e i = some (e - (e - (e - 2 ^ i) % (2 * 2 ^ i))) := by
              unfold gapF
              rw [ep]
              exact if_pos ⟨.inr hd', hq'⟩
            rw [upd_same, gapL_succ, ef, List.map_append]
            rfl
          · have hq' : ¬ leO (some (t - (e - (e - 2 ^ i) % (2 * 2 ^ i)) + 1)) (lifeAt ls i) = true := hc
            have ef : gapF ls t e i = none := by
              unfold gapF
              rw [ep]
              exact if_neg fun z => hq' z.2
            refine ⟨sm, _, _, _, rfl, ?_⟩
            rw [gapL_succ, ef, eF]
            simp
        · have hd' : ¬ 2 ^ i ≤ e := fun z => hd (decide_eq_true z)
          have ef : gapF ls t e i = none := by
            unfold gapF
            exact if_neg fun z => z.1.elim hc' hd'
          refine ⟨sm, _, _, _, rfl, ?_⟩
          rw [gapL_succ, ef, eF]
          simp
    · rintro σ H1 ⟨sm, v6, v7, v8, rfl, eF⟩
      rw [← he] at gd1
      refine ⟨_, rfl, Nat.zero_le _, fun Z hZ => ?_⟩
      have eF2 := same_upd (o := .lst []) hZ _ _ eF
      have q := k _ (sm.trans (same_upd (o := .lst []) hZ))
      refine ⟨_, _, .lst (SqL.of eF2) (dpAll_ints _), .lst (SqL.of upd_same) .nil, shaped_ints _, shaped_ints [], _, rfl, ?_⟩
      rw [eqv_nil]
      rcases gd1 with ⟨g1, g2⟩ | ⟨d, g1, g2, g3⟩
      · rw [g2] at q
        refine ite2 (fun z => absurd z (by rw [g1]; decide)) (fun _ => ?_)
        exact q
      · rw [g1] at q
        have ne : gapL ls t e ls.length ≠ [] := fun z => by rw [z] at g2; exact nomatch g2
        refine ite2 (fun _ => ?_) (fun z => absurd (by simp [ne]) z)
        refine ⟨_, rfl, F, _, rfl, SqL.of eF2, List.length_pos_iff.mpr ne, fun m hm hle => ?_⟩
        have h5 := hle d g2
        have h6 := g3 m hm
        have e7 : d = m := by omega
        rw [e7] at q
        exact q
end
/-! SPLIT -/
abbrev s_is_natural : Stmt := (top 1)
abbrev N_is_natural : List Str := ["value"]
theorem sc_is_natural : FnScope N_is_natural ["value"] (defScope s_is_natural) :=
  ⟨rfl, rfl, rfl, by decide +kernel, rfl, by decide +kernel, by decide +kernel⟩
abbrev s_at_most : Stmt := (top 3)
abbrev N_at_most : List Str := ["one", "other"]
theorem sc_at_most : FnScope N_at_most ["one", "other"] (defScope s_at_most) :=
  ⟨rfl, rfl, rfl, by decide +kernel, rfl, by decide +kernel, by decide +kernel⟩
abbrev s_shortest : Stmt := (top 18)
abbrev N_shortest : List Str := ["lives", "length"]
theorem sc_shortest : FnScope N_shortest ["lives"] (defScope s_shortest) :=
  ⟨rfl, rfl, rfl, by decide +kernel, rfl, by decide +kernel, by decide +kernel⟩
abbrev s_Rule___init__ : Stmt := (inClass (top 23) 1)
abbrev N_Rule___init__ : List Str := ["self", "lives", "reckoned"]
theorem sc_Rule___init__ : FnScope N_Rule___init__ ["self", "lives"] (defScope s_Rule___init__) :=
  ⟨rfl, rfl, rfl, by decide +kernel, rfl, by decide +kernel, by decide +kernel⟩
abbrev s_Rule_are_lives : Stmt := (inClass (top 23) 2)
abbrev N_Rule_are_lives : List Str := ["value", "integers", "life", "following"]
theorem sc_Rule_are_lives : FnScope N_Rule_are_lives ["value"] (defScope s_Rule_are_lives) :=
  ⟨rfl, rfl, rfl, by decide +kernel, rfl, by decide +kernel, by decide +kernel⟩
abbrev s_Rule_of : Stmt := (inClass (top 23) 3)
abbrev N_Rule_of : List Str := ["cls", "lives"]
theorem sc_Rule_of : FnScope N_Rule_of ["cls", "lives"] (defScope s_Rule_of) :=
  ⟨rfl, rfl, rfl, by decide +kernel, rfl, by decide +kernel, by decide +kernel⟩
abbrev s_Rule___call__ : Stmt := (inClass (top 23) 10)
abbrev N_Rule___call__ : List Str := ["self", "age", "step", "life"]
theorem sc_Rule___call__ : FnScope N_Rule___call__ ["self", "age"] (defScope s_Rule___call__) :=
  ⟨rfl, rfl, rfl, by decide +kernel, rfl, by decide +kernel, by decide +kernel⟩
def spNat : Sp := fun vs H Q _ => ∃ i : Int, vs = [.int i] ∧ Q (.bl (decide (0 ≤ i))) H
def spAtMost : Sp := fun vs H Q _ => ∃ x y : Option Int, vs = [lv x, lv y] ∧ Q (.bl (leO x y)) H
def spShortest : Sp := fun vs H Q _ => ∃ (a : Addr) (ls : List (Option Int)), vs = [.ref a] ∧ H a = some (.tup (ls.map lv)) ∧ 0 < ls.length ∧ ls.length ≤ 1000 ∧ ∀ r H', Same H H' → H' r = some (.tup ((short ls).map lv)) → Q (.ref r) H'
def spAre (K : PySem.W.Frag) : Sp := fun vs H Q _ => ∃ (a : Addr) (ls : List (Option Int)), vs = [.ref a] ∧ SqT K H a (ls.map lv) ∧ Good ls ∧ ∀ H', Same H H' → Q (.bl true) H'
theorem tyx_tup {K : PySem.W.Frag} {H : Hp} {a : Addr} {xs : List V} (h : SqT K H a xs) : TyX K H (.ref a) (.type "tuple") := by
  rcases h with (h | ⟨o, h⟩) | ⟨o, its, n, h, c, _⟩
  · exact .base (.tup h)
  · exact .fTuple h
  · exact .kTuple h c
theorem walk_zipT {K : PySem.W.Frag} {a b : Addr} {xs ys : List V} {n : Nat} (hn : n = min xs.length ys.length) : Walk (RZ.ItzT K a b) n (fun H => SqT K H a xs ∧ SqT K H b ys) (YPair (fun i => xs[i]?) (fun i => ys[i]?)) := by
  subst hn
  constructor
  · intro i H hi q
    exact ⟨xs, ys, xs[i]'(by omega), ys[i]'(by omega), q.1, q.2, List.getElem?_eq_getElem _, List.getElem?_eq_getElem _⟩
  · intro H q
    exact ⟨xs, ys, q.1, q.2, by omega⟩
  · rintro i H v H' _ q ⟨T, x, z, h1, h2, h3, h4, h5⟩
    exact ⟨T, x, z, h1, h2, h3, h4 xs q.1, h5 ys q.2⟩
/-- what the text's top has made of the class and the module's constants -/
structure RuleT (K : PySem.W.Frag) (mg : Str → Option Value) (C CR : Addr) (mc : Value) (fInit pAre fAre : Addr) (fdAre : FuncData) : Prop where
  cl : Cls K C
  mkc : Mk K C fInit
  nL : NoAttr K C "_lives"
  m_Rule : mg "Rule" = some (.ref C)
  m_Reckoned : mg "Reckoned" = some (.ref CR)
  m_Long : ∃ t, mg "LONGEST_LIFE" = some (.int 1000000000000000000 t)
  rd : ClX.CRead K C mc
  most : ∃ u, ClX.CVal K C mc "MOST_LIVES" (.int 61) u
  s_are : SMet K C mc "are_lives" pAre fAre
  b_are : Binds K fdAre ["value"] []
  notR1 : PySem.W.kitOne K (.type "int") (.ref CR) = some false
  notR2 : PySem.W.kitOne K (.type "NoneType") (.ref CR) = some false
section
variable {P : Program} {w : World} {K : PySem.W.Frag} {mg : Str → Option Value} {base : Heap}
theorem ok_natural (D : Df K mg "is_natural" s_is_natural ["value"]) (T : Bl mg) : HasO P w K mg base 1 "is_natural" ["value"] spNat := by
  refine D.hasO sc_is_natural (fun vs H Q E h => ?_) (fun f cdv A outer s H vs Q E hr h => ?_)
  · obtain ⟨i, rfl, _⟩ := h
    rfl
  · obtain ⟨i, rfl, k⟩ := h
    refine ⟨_, (pss_one (ps_ret (pe_and (pe_callB call_isi (by rfl) T.isinstance (by decide +kernel) (pa_cons (pv 0) (pa_cons (pe_bltn (v := .ty "int") (by rfl) T.int (by decide +kernel) rfl) pa_nil))) (pe_and (pe_not (pe_callB call_isi (by rfl) T.isinstance (by decide +kernel) (pa_cons (pv 0) (pa_cons (pe_bltn (v := .ty "bool") (by rfl) T.bool (by decide +kernel) rfl) pa_nil)))) (pe_one (pe_cmpR op_ge (pv 0) pe_int (nomark _))))))), ?_⟩
    refine ⟨_, rfl, _, _, _, _, true, rfl, .ty _, .base (.int i), kit_ty (by decide +kernel), true, rfl, ?_⟩
    refine iteT ?_
    refine ⟨_, rfl, _, _, _, _, false, rfl, .ty _, .base (.int i), kit_ty (by decide +kernel), false, rfl, true, rfl, ?_⟩
    refine iteT ?_
    exact ⟨_, rfl, _, _, rfl, rfl, k⟩
theorem ok_at_most (D : Df K mg "at_most" s_at_most ["one", "other"]) : HasO P w K mg base 1 "at_most" ["one", "other"] spAtMost := by
  refine D.hasO sc_at_most (fun vs H Q E h => ?_) (fun f cdv A outer s H vs Q E hr h => ?_)
  · obtain ⟨x, y, rfl, _⟩ := h
    rfl
  · obtain ⟨x, y, rfl, k⟩ := h
    refine ⟨_, (pss_one (ps_ret (pe_or (pe_cmpR op_isN (pv 1) pe_non (nomark _)) (pe_one (pe_and (pe_cmpR op_notN (pv 0) pe_non (nomark _)) (pe_one (pe_cmpR op_le (pv 0) (pv 1) (nomark _)))))))), ?_⟩
    cases y with
    | none =>
      refine ⟨_, rfl, rfl, true, rfl, ?_⟩
      refine iteT ?_
      exact k
    | some b =>
      refine ⟨_, rfl, rfl, false, rfl, ?_⟩
      refine iteF ?_
      cases x with
      | none =>
        refine ⟨_, rfl, rfl, false, rfl, ?_⟩
        exact k
      | some a =>
        refine ⟨_, rfl, rfl, true, rfl, ?_⟩
        exact ⟨_, rfl, _, rfl, _, _, rfl, rfl, k⟩
theorem ok_shortest (D : Df K mg "shortest" s_shortest ["lives"]) (T : Bl mg) : HasO P w K mg base 1 "shortest" ["lives"] spShortest := by
  refine D.hasO sc_shortest (fun vs H Q E h => ?_) (fun f cdv A outer s H vs Q E hr h => ?_)
  · obtain ⟨a, ls, rfl, _⟩ := h
    rfl
  · obtain ⟨a, ls, rfl, ha, h0, h1, k⟩ := h
    refine ⟨_, (pss_cons (ps_set (i := 1) sc_shortest.nd rfl (Or.inl rfl) (pe_callB call_len_seq (by rfl) T.len PySem.boot_len (pa_cons (pv 0) pa_nil)))
      (pss_cons (ps_while PassesOwn.never (PW.pt (pw_and (pt_cmpR op_gt (pv 1) pe_int (nomark _)) (pw_and1 (pt_cmpR op_eq (pe_ix ix_tup (pv 0) (pe_op op_sub (pv 1) pe_int) (fun _ _ => rfl)) (pe_ix ix_tup (pv 0) (pe_op op_sub (pv 1) pe_int) (fun _ _ => rfl)) (nomark _))))) (pss_one (ps_aug (i := 1) sc_shortest.nd rfl (Or.inl rfl) pe_int ip_sub)))
      (pss_one (ps_ret (pe_slice sl_tupB (pv 0) po_none (po_some (pv 1))))))), ?_⟩
    refine ⟨_, rfl, a, _, rfl, .inr (SqT.of ha), ?_⟩
    refine ⟨fun m σ H' => H' = H ∧ ∃ n : Nat, σ = [some (.ref a), some (.int n)] ∧ 0 < n ∧ n ≤ ls.length ∧ n = m ∧ cutN ls n = cutN ls ls.length, ⟨_, rfl, ls.length, by rw [List.length_map]; rfl, h0, Nat.le_refl _, rfl, rfl⟩, ?_⟩
    rintro m σ H' ⟨rfl, n, rfl, n0, n1, rfl, hc⟩
    refine ⟨_, rfl, _, _, rfl, rfl, _, rfl, ?_⟩
    -- what follows the loop
    have fin : cutN ls n = n → ∀ r H2, (r = a ∧ H2 = H' ∧ cutV (ls.map lv) none (some (n : Int)) = ls.map lv) ∨ (H' r = none ∧ H2 = upd H' r (.tup (cutV (ls.map lv) none (some (n : Int))))) → Q (.ref r) H2 := by
      intro e r H2 hr2
      have ec : cutV (ls.map lv) none (some (n : Int)) = (short ls).map lv := by
        rw [cut_take _ _ (by rw [List.length_map]; exact n1)]
        unfold short
        rw [← hc, e, List.map_take]
      refine k r H2 (rSlB_same hr2) ?_
      rw [ec] at hr2
      rcases hr2 with ⟨e1, e2, e3⟩ | ⟨e1, e2⟩
      · rw [e1, e2, ha, ← e3]
      · rw [e2]
        exact upd_same
    refine ite2 (fun hn => ?_) (fun hn => ?_)
    · have hn' : 1 < n := by
        have := of_decide_eq_true hn
        omega
      obtain ⟨j, rfl⟩ : ∃ j, n = j + 2 := ⟨n - 2, by omega⟩
      have l1 : j + 1 < ls.length := by omega
      have l0 : j < ls.length := by omega
      have a1 : (ls.map lv)[j + 1]? = some (lv ls[j + 1]) := by rw [List.getElem?_map, List.getElem?_eq_getElem l1]; rfl
      have a0 : (ls.map lv)[j]? = some (lv ls[j]) := by rw [List.getElem?_map, List.getElem?_eq_getElem l0]; rfl
      refine ⟨_, rfl, _, rfl, _, _, rfl, rfl, a, _, _, _, rfl, rfl, SqT.of ha, at_of (j := j + 1) (by omega) a1, ?_⟩
      refine ⟨_, rfl, _, rfl, _, _, rfl, rfl, a, _, _, _, rfl, rfl, SqT.of ha, at_of (j := j) (by omega) a0, ?_⟩
      refine ⟨by cases ls[j + 1] <;> cases ls[j] <;> rfl, _, rfl, ?_⟩
      refine ite2 (fun he => ?_) (fun he => ?_)
      · have he' : ls[j + 1]? = ls[j]? := by
          rw [List.getElem?_eq_getElem l1, List.getElem?_eq_getElem l0, lv_inj (of_decide_eq_true he)]
        refine ⟨fun σ' H'' => H'' = H' ∧ σ' = [some (.ref a), some (.int ((j + 1 : Nat) : Int))], ?_, ?_⟩
        · rintro σ' H'' ⟨rfl, rfl⟩
          exact ⟨j + 1, by omega, rfl, j + 1, rfl, by omega, by omega, rfl, by rw [← hc, cutN_eq he']⟩
        · refine ⟨_, rfl, _, _, rfl, rfl, rfl, ?_⟩
          have e : ((j + 2 : Nat) : Int) - 1 = ((j + 1 : Nat) : Int) := by omega
          show [some (V.ref a), some (V.int (((j + 2 : Nat) : Int) - 1))] = _
          rw [e]
      · have he' : ¬ ls[j + 1]? = ls[j]? := by
          rw [List.getElem?_eq_getElem l1, List.getElem?_eq_getElem l0]
          intro z
          exact he (decide_eq_true (by rw [Option.some.inj z]))
        refine ⟨_, rfl, _, rfl, _, rfl, a, _, rfl, SqT.of ha, fin (cutN_ne he')⟩
    · have hn' : n = 1 := by
        have : ¬ (1 : Int) < (n : Int) := fun z => hn (decide_eq_true z)
        omega
      subst hn'
      refine ite2 (fun z => absurd z (by decide)) (fun _ => ?_)
      exact ⟨_, rfl, _, rfl, _, rfl, a, _, rfl, SqT.of ha, fin rfl⟩
variable {C CR : Addr} {mc : Value} {fInit pAre fAre : Addr} {fdAre fdInit : FuncData}
theorem ok_are (F : Fun K "are_lives" "Rule.are_lives" s_Rule_are_lives fAre fdAre) (T : Bl mg) (R : RuleT K mg C CR mc fInit pAre fAre fdAre) (C_is_natural : HasO P w K mg base 1 "is_natural" ["value"] spNat) : FnOk P w K mg base CX0 2 fAre fdAre ["value"] (spAre K) := by
  refine F.ok sc_Rule_are_lives (fun vs H Q E h => ?_) (fun cdv A outer s H vs Q E hr h => ?_)
  · obtain ⟨a, ls, rfl, _⟩ := h
    rfl
  · obtain ⟨a, ls, rfl, hS, g, k⟩ := h
    obtain ⟨tL, hLong⟩ := R.m_Long
    obtain ⟨uM, hMost⟩ := R.most
    refine ⟨_, (pss_cons (ps_if (PW.pt (pw_or (pt_not (pt_val (pe_callB call_isi (by rfl) T.isinstance (by decide +kernel) (pa_cons (pv 0) (pa_cons (pe_bltn (v := .ty "tuple") (by rfl) T.tuple (by decide +kernel) rfl) pa_nil))))) (pw_or1 (pt_not (pt_chain op_le op_le pe_int (pe_callB call_len_seq (by rfl) T.len PySem.boot_len (pa_cons (pv 0) pa_nil)) (ClX.pe_cval (pe_glob (v := .ref C) rfl R.m_Rule rfl))))))) (pss_one (ps_ret pe_bl)) pss_nil)
      (pss_cons (ps_set (i := 1) sc_Rule_are_lives.nd rfl (Or.inl rfl) (pe_ifExp (pt_cmpR op_isN (pe_ix ix_tup (pv 0) (pe_un un_neg pe_int) (fun _ _ => rfl)) pe_non (nomark _)) (pe_slice sl_tupB (pv 0) po_none (po_some (pe_un un_neg pe_int))) (pv 0)))
      (pss_cons (ps_if (pt_not (pt_val (pe_callB (cr_all rfl) (by rfl) T.all (by decide +kernel) (pa_cons (pe_lc (own := [("life", 2)]) (g := gName 2) (tt := tYes) rfl sc_Rule_are_lives.nd (pi_tup (pv 1)) (blkOk_by (N := N_Rule_are_lives) (sc := defScope s_Rule_are_lives) (by decide +kernel)) (fun _ _ _ _ _ => pg_name (i := 2) sc_Rule_are_lives.nd rfl (Or.inl rfl)) (fun _ _ _ _ _ => pts_nil) (fun _ _ _ _ _ => (pe_and (pe_hasO C_is_natural (hr.mono (by decide)) rfl (pa_cons (pv 2) pa_nil)) (pe_one (pe_cmpR op_le (pv 2) (pe_glob (v := .int 1000000000000000000) rfl hLong ⟨_, rfl⟩) (nomark _)))))) pa_nil)))) (pss_one (ps_ret pe_bl)) pss_nil)
      (pss_one (ps_ret (pe_callB (cr_all rfl) (by rfl) T.all (by decide +kernel) (pa_cons (pe_lc (own := [("life", 2), ("following", 3)]) (g := gTup _ 2 (gCons (gName 2) (gCons (gName 3) (gNil)))) (tt := tYes) rfl sc_Rule_are_lives.nd (RZ.pi_zipA rfl T.zip (pa_cons (pv 1) (pa_cons (pe_slice sl_tupB (pv 1) (po_some pe_int) po_none) pa_nil))) (blkOk_by (N := N_Rule_are_lives) (sc := defScope s_Rule_are_lives) (by decide +kernel)) (fun _ _ _ _ _ => pg_tup rfl (pgs_cons (pg_name (i := 2) sc_Rule_are_lives.nd rfl (Or.inl rfl)) (pgs_cons (pg_name (i := 3) sc_Rule_are_lives.nd rfl (Or.inl rfl)) pgs_nil))) (fun _ _ _ _ _ => pts_nil) (fun _ _ _ _ _ => (pe_cmpR op_le (pv 2) (pv 3) (nomark _)))) pa_nil))))))), ?_⟩
    refine ⟨_, rfl, _, _, _, _, true, rfl, .ty _, tyx_tup hS, kit_ty (by decide +kernel), _, rfl, ?_⟩
    refine ite2 (fun z => absurd z (by decide)) (fun _ => ?_)
    have hlen : (ls.map lv).length = ls.length := List.length_map _
    have hpos := g.pos
    have hmost := g.most
    refine ⟨_, rfl, a, _, rfl, .inr hS, _, _, rfl, rfl, _, rfl, ?_⟩
    refine ite2 (fun _ => ?_) (fun z => absurd (decide_eq_true (by omega)) z)
    refine ⟨C, mc, _, _, rfl, R.rd, hMost, _, _, rfl, rfl, _, rfl, ?_⟩
    refine ite2 (fun z => ?_) (fun _ => ?_)
    · have : decide (((ls.map lv).length : Int) ≤ 61) = true := decide_eq_true (by omega)
      rw [this] at z
      cases z
    obtain ⟨is, l, rfl, hb0, hb1⟩ := g.init
    have em : (is.map some ++ [l]).map lv = is.map V.int ++ [lv l] := by
      rw [List.map_append, List.map_map]
      rfl
    rw [em] at hS
    refine ⟨_, rfl, _, rfl, a, _, _, _, rfl, rfl, hS, atI_last _ _, rfl, _, rfl, ?_⟩
    cases l with
    | none =>
      refine iteT ?_
      refine ⟨_, rfl, _, rfl, _, rfl, a, _, rfl, hS, fun r H1 hr0 => ?_⟩
      have sm1 := rSlB_same hr0
      have hr1 := rSlB_at hS hr0
      rw [cut_init] at hr1
      have hlen2 : is.length < 61 := by
        rw [List.length_append, List.length_map] at hmost
        exact hmost
      have hasc : ∀ (i : Nat) (x y : Int), is[i]? = some x → is[i + 1]? = some y → x ≤ y := by
        intro i x y hx hy
        have l2 := (List.getElem?_eq_some_iff.mp hy).1
        have h2 := g.asc i (some x) (some y) (by rw [List.getElem?_append_left (by rw [List.length_map]; omega), List.getElem?_map, hx]; rfl) (by rw [List.getElem?_append_left (by rw [List.length_map]; omega), List.getElem?_map, hy]; rfl)
        exact of_decide_eq_true h2
      have hb := hb0
      generalize is = ns at *
      refine ⟨_, rfl, r, rfl, ⟨_, hr1⟩, fun D hD => lc_tup (xs := ns.map V.int) (fun i H' => H' D = some (.lst (List.replicate i (.bl true))) ∧ Same H1 H') ⟨upd_same, same_upd hD⟩ (fun i H' _ z => SqT.same z.2 hr1) ?_ ?_⟩
      · rintro i x H' hx ⟨e, sm⟩
        obtain ⟨n, hn, rfl⟩ := map_at hx
        have hb := hb n (List.mem_of_getElem? hn)
        have hd0 : decide (0 ≤ n) = true := decide_eq_true hb.1
        have hd1 : decide (n ≤ (1000000000000000000 : Int)) = true := decide_eq_true hb.2
        refine ⟨rfl, _, rfl, n, rfl, _, rfl, ?_⟩
        rw [hd0]
        refine iteT ?_
        refine ⟨_, rfl, _, _, rfl, rfl, ?_⟩
        refine ⟨_, e, ?_, ?_, ?_⟩
        · rw [List.length_replicate]
          have := (List.getElem?_eq_some_iff.mp hn).1
          exact small1000 (by omega)
        · rw [upd_same, List.replicate_succ']
          exact congrArg (fun z => some (HO.lst (List.replicate i (V.bl true) ++ [V.bl z]))) hd1
        · intro b o z
          rw [upd_ne (ne_of_none z hD)]
          exact sm b o z
      · rintro H2 ⟨e2, sm2⟩
        refine ⟨D, List.replicate (ns.map V.int).length true, rfl, SqL.of (by rw [e2, List.map_replicate]), _, rfl, ?_⟩
        refine ite2 (fun z => absurd z (by simp)) (fun _ => ?_)
        have hr2 := SqT.same sm2 hr1
        refine ⟨_, rfl, _, rfl, 1, rfl, r, _, rfl, hr2, fun r3 H3 hr3 => ?_⟩
        have sm3 := rSlB_same hr3
        have at3 := rSlB_at hr2 hr3
        rw [cut_drop] at at3
        refine ⟨r, r3, _, _, rfl, .inr ⟨SqT.same sm3 hr2, at3, fun D2 hD2 => ?_⟩⟩
        refine lc_it (walk_zipT (xs := ns.map V.int) (ys := (ns.map V.int).drop 1) (n := ns.length - 1) (by rw [List.length_drop, List.length_map]; omega)) (fun i H' => H' D2 = some (.lst (List.replicate i (.bl true))) ∧ Same H3 H') ⟨upd_same, same_upd hD2⟩
          (fun i H' _ z => ⟨SqT.same z.2 (SqT.same sm3 hr2), SqT.same z.2 at3⟩) ?_ ?_
        · rintro i x H4 H5 hi ⟨e4, sm4⟩ ⟨t, x0, y0, rfl, ht, rfl, hx0, hy0⟩
          obtain ⟨n0, hn0, rfl⟩ := map_at hx0
          have hy0' : (ns.map V.int)[i + 1]? = some y0 := by
            have z : ((ns.map V.int).drop 1)[i]? = some y0 := hy0
            rw [List.getElem?_drop, Nat.add_comm] at z
            exact z
          obtain ⟨n1, hn1, rfl⟩ := map_at hy0'
          have hle : decide (n0 ≤ n1) = true := decide_eq_true (hasc i n0 n1 hn0 hn1)
          refine ⟨t, _, rfl, SqT.of upd_same, rfl, _, _, rfl, _, _, rfl, rfl, rfl, ?_⟩
          refine ⟨_, rfl, _, rfl, _, _, rfl, rfl, ?_⟩
          have nt : D2 ≠ t := ne_of_none e4 ht
          refine ⟨_, Eq.trans (upd_ne nt) e4, ?_, ?_, ?_⟩
          · rw [List.length_replicate]
            exact small1000 (by omega)
          · rw [upd_same, List.replicate_succ']
            exact congrArg (fun z => some (HO.lst (List.replicate i (V.bl true) ++ [V.bl z]))) hle
          · intro b o z
            rw [upd_ne (ne_of_none z hD2), upd_ne (ne_of_none (sm4 b o z) ht)]
            exact sm4 b o z
        · rintro H4 ⟨e4, sm4⟩
          refine ⟨D2, List.replicate (ns.length - 1) true, rfl, SqL.of (by rw [e4, List.map_replicate]), ?_⟩
          have ea : (List.replicate (ns.length - 1) true).all _root_.id = true := by simp
          rw [ea]
          exact k _ (((sm1.trans sm2).trans sm3).trans sm4)
    | some m =>
      refine iteF ?_
      have hlen2 : (is ++ [m]).length ≤ 61 := by
        rw [List.length_append, List.length_map] at hmost
        rw [List.length_append]
        exact hmost
      have e2 : is.map some ++ [some m] = (is ++ [m]).map some := by rw [List.map_append]; rfl
      have hasc : ∀ (i : Nat) (x y : Int), (is ++ [m])[i]? = some x → (is ++ [m])[i + 1]? = some y → x ≤ y := by
        intro i x y hx hy
        have h2 := g.asc i (some x) (some y) (by rw [e2, List.getElem?_map, hx]; rfl) (by rw [e2, List.getElem?_map, hy]; rfl)
        exact of_decide_eq_true h2
      have hb : ∀ i ∈ (is ++ [m]), 0 ≤ i ∧ i ≤ 10 ^ 18 := by
        intro i hi
        rcases List.mem_append.mp hi with h | h
        · exact hb0 i h
        · exact hb1 i (congrArg some (List.mem_singleton.mp h).symm)
      have e3 : is.map V.int ++ [lv (some m)] = (is ++ [m]).map V.int := by rw [List.map_append]; rfl
      rw [e3] at hS
      generalize is ++ [m] = ns at *
      obtain ⟨r, H1, er, eH⟩ : ∃ r H1, r = a ∧ H1 = H := ⟨a, H, rfl, rfl⟩
      have hr1 : SqT K H1 r (ns.map V.int) := by rw [er, eH]; exact hS
      have sm1 : Same H H1 := by rw [eH]; exact Same.refl H
      rw [← eH, ← er]
      refine ⟨_, rfl, ?_⟩
      refine ⟨_, rfl, r, rfl, ⟨_, hr1⟩, fun D hD => lc_tup (xs := ns.map V.int) (fun i H' => H' D = some (.lst (List.replicate i (.bl true))) ∧ Same H1 H') ⟨upd_same, same_upd hD⟩ (fun i H' _ z => SqT.same z.2 hr1) ?_ ?_⟩
      · rintro i x H' hx ⟨e, sm⟩
        obtain ⟨n, hn, rfl⟩ := map_at hx
        have hb := hb n (List.mem_of_getElem? hn)
        have hd0 : decide (0 ≤ n) = true := decide_eq_true hb.1
        have hd1 : decide (n ≤ (1000000000000000000 : Int)) = true := decide_eq_true hb.2
        refine ⟨rfl, _, rfl, n, rfl, _, rfl, ?_⟩
        rw [hd0]
        refine iteT ?_
        refine ⟨_, rfl, _, _, rfl, rfl, ?_⟩
        refine ⟨_, e, ?_, ?_, ?_⟩
        · rw [List.length_replicate]
          have := (List.getElem?_eq_some_iff.mp hn).1
          exact small1000 (by omega)
        · rw [upd_same, List.replicate_succ']
          exact congrArg (fun z => some (HO.lst (List.replicate i (V.bl true) ++ [V.bl z]))) hd1
        · intro b o z
          rw [upd_ne (ne_of_none z hD)]
          exact sm b o z
      · rintro H2 ⟨e2, sm2⟩
        refine ⟨D, List.replicate (ns.map V.int).length true, rfl, SqL.of (by rw [e2, List.map_replicate]), _, rfl, ?_⟩
        refine ite2 (fun z => absurd z (by simp)) (fun _ => ?_)
        have hr2 := SqT.same sm2 hr1
        refine ⟨_, rfl, _, rfl, 1, rfl, r, _, rfl, hr2, fun r3 H3 hr3 => ?_⟩
        have sm3 := rSlB_same hr3
        have at3 := rSlB_at hr2 hr3
        rw [cut_drop] at at3
        refine ⟨r, r3, _, _, rfl, .inr ⟨SqT.same sm3 hr2, at3, fun D2 hD2 => ?_⟩⟩
        refine lc_it (walk_zipT (xs := ns.map V.int) (ys := (ns.map V.int).drop 1) (n := ns.length - 1) (by rw [List.length_drop, List.length_map]; omega)) (fun i H' => H' D2 = some (.lst (List.replicate i (.bl true))) ∧ Same H3 H') ⟨upd_same, same_upd hD2⟩
          (fun i H' _ z => ⟨SqT.same z.2 (SqT.same sm3 hr2), SqT.same z.2 at3⟩) ?_ ?_
        · rintro i x H4 H5 hi ⟨e4, sm4⟩ ⟨t, x0, y0, rfl, ht, rfl, hx0, hy0⟩
          obtain ⟨n0, hn0, rfl⟩ := map_at hx0
          have hy0' : (ns.map V.int)[i + 1]? = some y0 := by
            have z : ((ns.map V.int).drop 1)[i]? = some y0 := hy0
            rw [List.getElem?_drop, Nat.add_comm] at z
            exact z
          obtain ⟨n1, hn1, rfl⟩ := map_at hy0'
          have hle : decide (n0 ≤ n1) = true := decide_eq_true (hasc i n0 n1 hn0 hn1)
          refine ⟨t, _, rfl, SqT.of upd_same, rfl, _, _, rfl, _, _, rfl, rfl, rfl, ?_⟩
          refine ⟨_, rfl, _, rfl, _, _, rfl, rfl, ?_⟩
          have nt : D2 ≠ t := ne_of_none e4 ht
          refine ⟨_, Eq.trans (upd_ne nt) e4, ?_, ?_, ?_⟩
          · rw [List.length_replicate]
            exact small1000 (by omega)
          · rw [upd_same, List.replicate_succ']
            exact congrArg (fun z => some (HO.lst (List.replicate i (V.bl true) ++ [V.bl z]))) hle
          · intro b o z
            rw [upd_ne (ne_of_none z hD2), upd_ne (ne_of_none (sm4 b o z) ht)]
            exact sm4 b o z
        · rintro H4 ⟨e4, sm4⟩
          refine ⟨D2, List.replicate (ns.length - 1) true, rfl, SqL.of (by rw [e4, List.map_replicate]), ?_⟩
          have ea : (List.replicate (ns.length - 1) true).all _root_.id = true := by simp
          rw [ea]
          exact k _ (((sm1.trans sm2).trans sm3).trans sm4)
/-- a rule stands at r with these (shortest) lives -/
def RuleAt (C : Addr) (H : Hp) (r : Addr) (ls : List (Option Int)) : Prop := ∃ dx t, H r = some (.ins C dx (putF "_lives" (.ref t) [])) ∧ H t = some (.tup (ls.map lv))
theorem RuleAt.same {C r : Addr} {H H' : Hp} {ls : List (Option Int)} (h : RuleAt C H r ls) (s : Same H H') : RuleAt C H' r ls := by
  obtain ⟨dx, t, h1, h2⟩ := h
  exact ⟨dx, t, s _ _ h1, s _ _ h2⟩
def spInit (C : Addr) : Sp := fun vs H Q _ => ∃ (x p dx : Addr) (ls : List (Option Int)), vs = [.ref x, .ref p] ∧ H x = some (.ins C dx []) ∧ H p = some (.tup (ls.map lv)) ∧ Good ls ∧
  ∀ H', (∀ b o, H b = some o → b ≠ x → H' b = some o) → RuleAt C H' x (short ls) → Q .non H'
theorem ok_init (F : Fun K "__init__" "Rule.__init__" s_Rule___init__ fInit fdInit) (T : Bl mg) (R : RuleT K mg C CR mc fInit pAre fAre fdAre) (G_are : FnOk P w K mg base CX0 2 fAre fdAre ["value"] (spAre K)) (C_shortest : HasO P w K mg base 1 "shortest" ["lives"] spShortest) :
    FnR P w K mg base CX0 3 fInit (fun vs H Q E => ∃ ws rest, vs = ws ++ rest ∧ ws.length = ["self"].length ∧ rest.length ≤ sizeLine ∧ ∀ p, H p = Option.none → spInit C (ws ++ [V.ref p]) (upd H p (.tup rest)) Q E) := by
  obtain ⟨oc, od, kV, doc, pm, an, cdv, ct, osl, efd, lk, hcd⟩ := F.ex
  subst efd
  refine StX.fn_star (ps := ["self"]) (pv := "lives") (N := N_Rule___init__) lk hcd sc_Rule___init__ StX.cxUp_none (StX.bind_star1 (B := fun us => bindArgs (PySem.W.fnOf "__init__" "Rule.__init__" (defArgs s_Rule___init__) (defBody s_Rule___init__) (defScope s_Rule___init__) .none kV doc pm an cdv ct) ⟨us, []⟩) (fun _ => rfl) (fun _ _ _ => rfl)) (fun A outer s H vs Q E hr h => ?_)
  obtain ⟨x, p, dx, ls, rfl, hx, hp, g, k⟩ := h
  have body : PSs _ (defBody s_Rule___init__) _ := PSs.nox (X := cxOf CX0 P w K mg base N_Rule___init__ "Rule.__init__" (defScope s_Rule___init__) fInit cdv A outer s H E) (by exact (pss_cons (ps_set (i := 2) sc_Rule___init__.nd rfl (Or.inl rfl) (pe_and (pe_cmpR op_eq (pe_callB call_len_seq (by rfl) T.len PySem.boot_len (pa_cons (pv 1) pa_nil)) pe_int (nomark _)) (pe_one (pe_callB call_isi (by rfl) T.isinstance (by decide +kernel) (pa_cons (pe_ix ix_tup (pv 1) pe_int (fun _ _ => rfl)) (pa_cons (pe_glob (v := .ref CR) rfl R.m_Reckoned rfl) pa_nil))))))
      (pss_cons (ps_if (PW.pt (pw_and (pt_not (pt_val (pv 2))) (pw_and1 (pt_not (pt_val (pe_static (pe_glob (v := .ref C) rfl R.m_Rule rfl) R.rd R.s_are G_are R.b_are (hr.mono (by decide)) (pa_cons (pv 1) pa_nil))))))) (pss_one ps_never) pss_nil)
      (pss_one (ps_fld (pv 0) (pe_hasO C_shortest (hr.mono (by decide)) rfl (pa_cons (pe_ifExp (pt_val (pv 2)) (pe_fld (pe_ix ix_tup (pv 1) pe_int (fun _ _ => rfl)) rfl) (pv 1)) pa_nil)) rfl)))))
  refine ⟨_, body, ?_⟩
  have npx : p ≠ x := ne_of hp hx (by intro z; cases z)
  obtain ⟨is, l, els, hb0, hb1⟩ := g.init
  have hpos := g.pos
  have hmost := g.most
  have h0 : (ls.map lv)[0]? = some (lv ls[0]) := by rw [List.getElem?_map, List.getElem?_eq_getElem hpos]; rfl
  have hlen : (ls.map lv).length = ls.length := List.length_map _
  -- reckoned = len(lives) == 1 and isinstance(lives[0], Reckoned)
  refine ⟨_, rfl, p, _, rfl, .inr (SqT.of hp), rfl, _, rfl, ?_⟩
  refine ite2 (fun h1 => ?_) (fun _ => ?_)
  · have hf : PySem.W.kitOne K (match lv ls[0] with | .int _ => .type "int" | _ => .type "NoneType") (.ref CR) = some false := by
      cases ls[0] with
      | none => exact R.notR2
      | some i => exact R.notR1
    have ht : TyX K H (lv ls[0]) (match lv ls[0] with | .int _ => .type "int" | _ => .type "NoneType") := by
      cases ls[0] with
      | none => exact .base .non
      | some i => exact .base (.int i)
    refine ⟨_, rfl, p, _, _, _, rfl, rfl, SqT.of hp, at_of (j := 0) rfl h0, _, _, _, _, false, rfl, .own CR, ht, hf, ?_⟩
    refine ⟨_, rfl, false, rfl, ?_⟩
    refine ite2 (fun _ => ?_) (fun z => absurd rfl z)
    refine ⟨rfl, _, rfl, p, ls, rfl, SqT.of hp, g, fun H1 s1 => ⟨true, rfl, ?_⟩⟩
    refine ite2 (fun z => absurd z (by decide)) (fun _ => ?_)
    refine ⟨_, rfl, false, rfl, ?_⟩
    refine ite2 (fun z => absurd z (by decide)) (fun _ => ?_)
    refine ⟨_, rfl, p, ls, rfl, s1 _ _ hp, hpos, by omega, fun r H2 s2 e2 => ?_⟩
    have ex2 : H2 x = some (.ins C dx []) := s2 _ _ (s1 _ _ hx)
    have nrx : r ≠ x := ne_of e2 ex2 (by intro z; cases z)
    refine ⟨_, rfl, x, C, dx, [], rfl, ex2, R.cl, R.nL, (by show 0 < 1000; decide), ?_⟩
    exact k _ (fun b o e ne => by rw [upd_ne ne]; exact s2 b o (s1 b o e)) ⟨dx, r, upd_same, by rw [upd_ne nrx]; exact e2⟩
  · skip
    refine ⟨_, rfl, false, rfl, ?_⟩
    refine ite2 (fun _ => ?_) (fun z => absurd rfl z)
    refine ⟨rfl, _, rfl, p, ls, rfl, SqT.of hp, g, fun H1 s1 => ⟨true, rfl, ?_⟩⟩
    refine ite2 (fun z => absurd z (by decide)) (fun _ => ?_)
    refine ⟨_, rfl, false, rfl, ?_⟩
    refine ite2 (fun z => absurd z (by decide)) (fun _ => ?_)
    refine ⟨_, rfl, p, ls, rfl, s1 _ _ hp, hpos, by omega, fun r H2 s2 e2 => ?_⟩
    have ex2 : H2 x = some (.ins C dx []) := s2 _ _ (s1 _ _ hx)
    have nrx : r ≠ x := ne_of e2 ex2 (by intro z; cases z)
    refine ⟨_, rfl, x, C, dx, [], rfl, ex2, R.cl, R.nL, (by show 0 < 1000; decide), ?_⟩
    exact k _ (fun b o e ne => by rw [upd_ne ne]; exact s2 b o (s1 b o e)) ⟨dx, r, upd_same, by rw [upd_ne nrx]; exact e2⟩
theorem fnR_ok {k : Nat} {f : Addr} {fd : FuncData} {ps : List Str} {sp : Sp} (F : FnOk P w K mg base CX0 k f fd ps sp) (b : Binds K fd ps []) : FnR P w K mg base CX0 k f sp := by
  intro A outer s H us vs Q E hr e0 r h
  have hl : us.length = ps.length := r.length.symm.trans (F.len _ _ _ _ h)
  have kin : K.In s.heap := e0.mod.kin.keeps (fun b o e => And.left (e0.bs b o e))
  have hb := b s us kin (by rw [List.append_nil]; exact hl)
  rw [List.append_nil] at hb
  exact F.run A outer s H ⟨us, []⟩ us vs Q E hr e0 hb r h
def spOf (K : PySem.W.Frag) (C : Addr) : Sp := fun vs H Q _ => ∃ (a : Addr) (ls : List (Option Int)), vs = [.ref C, .ref a] ∧ SqT K H a (ls.map lv) ∧ Good ls ∧ ∀ r H', Same H H' → RuleAt C H' r (short ls) → Q (.ref r) H'
theorem ok_of {fOf : Addr} {fdOf : FuncData} (F : Fun K "of" "Rule.of" s_Rule_of fOf fdOf) (T : Bl mg) (R : RuleT K mg C CR mc fInit pAre fAre fdAre) (G_are : FnOk P w K mg base CX0 2 fAre fdAre ["value"] (spAre K))
    (G_init : FnR P w K mg base CX0 3 fInit (fun vs H Q E => ∃ ws rest, vs = ws ++ rest ∧ ws.length = ["self"].length ∧ rest.length ≤ sizeLine ∧ ∀ p, H p = Option.none → spInit C (ws ++ [V.ref p]) (upd H p (.tup rest)) Q E)) :
    FnOk P w K mg base CX0 5 fOf fdOf ["cls", "lives"] (spOf K C) := by
  refine F.ok sc_Rule_of (fun vs H Q E h => ?_) (fun cdv A outer s H vs Q E hr h => ?_)
  · obtain ⟨a, ls, rfl, _⟩ := h
    rfl
  · obtain ⟨a, ls, rfl, hS, g, k⟩ := h
    refine ⟨_, (pss_cons (ps_if (pt_not (pt_val (pe_static (pv 0) R.rd R.s_are G_are R.b_are (hr.mono (by decide)) (pa_cons (pv 1) pa_nil)))) (pss_one ps_never) pss_nil)
      (pss_one (ps_ret (pe_makeS R.mkc G_init (hr.mono (by decide)) rfl R.m_Rule (pv 1))))), ?_⟩
    refine ⟨_, rfl, rfl, _, rfl, a, ls, rfl, hS, g, fun H1 s1 => ⟨true, rfl, ?_⟩⟩
    refine ite2 (fun z => absurd z (by decide)) (fun _ => ?_)
    have hm := g.most
    refine ⟨_, rfl, a, _, rfl, .inl (SqT.same s1 hS), fun x dx nx ndx nex => ⟨[.ref x], ls.map lv, rfl, rfl, by rw [List.length_map]; exact Nat.le_of_lt (small1000 (by omega)), fun p hp => ?_⟩⟩
    have nxp : x ≠ p := ne_of_none upd_same hp
    refine ⟨x, p, dx, ls, rfl, by rw [upd_ne nxp]; exact upd_same, upd_same, g, fun H' kp ra => ⟨rfl, k x H' ?_ ra⟩⟩
    intro b o e
    have e1 := s1 b o e
    have nbx : b ≠ x := ne_of_none e1 nx
    have nbd : b ≠ dx := ne_of_none e1 ndx
    have e2 : upd (upd H1 dx (.own x)) x (.ins C dx []) b = some o := by
      rw [upd_ne nbx, upd_ne nbd]
      exact e1
    exact kp b o (by rw [upd_ne (ne_of_none e2 hp)]; exact e2) nbx
def spCall (C : Addr) : Sp := fun vs H Q _ => ∃ (r : Addr) (a : Int) (ls : List (Option Int)), vs = [.ref r, .int a] ∧ RuleAt C H r ls ∧ ls.length ≤ 61 ∧ Q (lv (due 0 ls a)) H
theorem lives_of (t : Addr) : (putF ("_lives" : Str) (V.ref t) []).lookup ("_lives" : Str) = some (.ref t) := by
  rw [lookup_putF, if_pos rfl]
theorem ok_call {fCall : Addr} {fdCall : FuncData} (F : Fun K "__call__" "Rule.__call__" s_Rule___call__ fCall fdCall) (T : Bl mg) (R : RuleT K mg C CR mc fInit pAre fAre fdAre) (C_at_most : HasO P w K mg base 1 "at_most" ["one", "other"] spAtMost) :
    FnOk P w K mg base CX0 2 fCall fdCall ["self", "age"] (spCall C) := by
  refine F.ok sc_Rule___call__ (fun vs H Q E h => ?_) (fun cdv A outer s H vs Q E hr h => ?_)
  · obtain ⟨r, a, ls, rfl, _⟩ := h
    rfl
  · obtain ⟨r, a, ls, rfl, ⟨dx, t, h1, h2⟩, hm, k⟩ := h
    refine ⟨_, (pss_cons (ps_set (i := 2) sc_Rule___call__.nd rfl (Or.inl rfl) pe_int)
      (pss_cons (ps_for PassesOwn.never rfl (pi_tup (pe_fld (pv 0) rfl)) (pg_name (i := 3) sc_Rule___call__.nd rfl (Or.inl rfl)) (pss_cons (ps_if (pt_val (pe_hasO C_at_most (hr.mono (by decide)) rfl (pa_cons (pe_op op_add (pv 1) (pv 2)) (pa_cons (pv 3) pa_nil)))) (pss_one (ps_ret (pe_op op_sub (pv 2) pe_int))) pss_nil)
      (pss_one (ps_set (i := 2) sc_Rule___call__.nd rfl (Or.inl rfl) (pe_op op_mul pe_int (pv 2))))))
      (pss_one (ps_ret pe_non)))), ?_⟩
    refine ⟨_, rfl, r, C, dx, _, _, rfl, h1, R.cl, R.nL, lives_of _, t, rfl, ⟨_, SqT.of h2⟩, for_tup (xs := ls.map lv) (fun i σ H' => H' = H ∧ ∃ v, σ = [some (.ref r), some (.int a), some (.int (2 ^ i)), v] ∧ due 0 ls a = due i (ls.drop i) a)
      ⟨rfl, none, rfl, rfl⟩ (fun i σ H' _ z => by rw [z.1]; exact SqT.of h2) ?_ ?_⟩
    · rintro i x σ H' hx ⟨rfl, v, rfl, e⟩
      obtain ⟨l, hl, rfl⟩ := map_at hx
      have hi := (List.getElem?_eq_some_iff.mp hl).1
      have ed : ls.drop i = l :: ls.drop (i + 1) := by
        rw [List.drop_eq_getElem_cons hi]
        have := (List.getElem?_eq_some_iff.mp hl).2
        rw [this]
      rw [ed] at e
      refine ⟨_, rfl, _, rfl, _, _, rfl, rfl, _, rfl, some (a + 2 ^ i), l, rfl, _, rfl, ?_⟩
      have eu : due i (l :: ls.drop (i + 1)) a = if leO (some (a + 2 ^ i)) l = true then some (2 ^ i - 1) else due (i + 1) (ls.drop (i + 1)) a := rfl
      rw [eu] at e
      refine ite2 (fun hc => ?_) (fun hc => ?_)
      · rw [if_pos hc] at e
        rw [e] at k
        exact ⟨_, rfl, _, _, rfl, rfl, k⟩
      · rw [if_neg hc] at e
        refine ⟨_, rfl, _, _, rfl, rfl, .inl ⟨by decide, by decide⟩, rfl, some (lv l), ?_, e⟩
        have e2 : (2 : Int) * 2 ^ i = 2 ^ (i + 1) := by rw [Int.pow_succ, Int.mul_comm]
        show [some (V.ref r), some (V.int a), some (V.int (2 * 2 ^ i)), some (lv l)] = _
        rw [e2]
    · rintro σ H' ⟨rfl, v, rfl, e⟩
      rw [List.length_map, List.drop_length] at e
      rw [e] at k
      exact k
end
abbrev s_Rule_lives : Stmt := (inClass (top 23) 4)
abbrev N_Rule_lives : List Str := ["self"]
theorem sc_Rule_lives : FnScope N_Rule_lives ["self"] (defScope s_Rule_lives) :=
  ⟨rfl, rfl, rfl, by decide +kernel, rfl, by decide +kernel, by decide +kernel⟩
def spLivesP (C : Addr) : Sp := fun vs H Q _ => ∃ (a : Addr) (ls : List (Option Int)), vs = [.ref a] ∧ RuleAt C H a ls ∧ ∀ t, H t = some (.tup (ls.map lv)) → Q (.ref t) H
section
variable {P : Program} {w : World} {K : PySem.W.Frag} {mg : Str → Option Value} {base : Heap} {C CR : Addr} {mc : Value} {fInit pAre fAre : Addr} {fdAre : FuncData}
theorem ok_livesP {fLv : Addr} {fdLv : FuncData} (F : Fun K "lives" "Rule.lives" s_Rule_lives fLv fdLv) (R : RuleT K mg C CR mc fInit pAre fAre fdAre) : FnOk P w K mg base CX0 1 fLv fdLv ["self"] (spLivesP C) := by
  refine F.ok sc_Rule_lives (fun vs H Q E h => ?_) (fun cdv A outer s H vs Q E hr h => ?_)
  · obtain ⟨a, ls, rfl, _⟩ := h
    rfl
  · obtain ⟨a, ls, rfl, ⟨dx1, t1, h1, h2⟩, k⟩ := h
    refine ⟨_, (pss_one (ps_ret (pe_fld (pv 0) rfl))), ?_⟩
    exact ⟨_, rfl, a, C, dx1, _, _, rfl, h1, R.cl, R.nL, lives_of _, k _ h2⟩
end
/-! SPLIT -/
abbrev s_greater : Stmt := (top 5)
abbrev N_greater : List Str := ["one", "other"]
theorem sc_greater : FnScope N_greater ["one", "other"] (defScope s_greater) :=
  ⟨rfl, rfl, rfl, by decide +kernel, rfl, by decide +kernel, by decide +kernel⟩
abbrev s_lesser : Stmt := (top 4)
abbrev N_lesser : List Str := ["one", "other"]
theorem sc_lesser : FnScope N_lesser ["one", "other"] (defScope s_lesser) :=
  ⟨rfl, rfl, rfl, by decide +kernel, rfl, by decide +kernel, by decide +kernel⟩
def spGreater : Sp := fun vs H Q _ => ∃ x y : Option Int, vs = [lv x, lv y] ∧ Q (lv (maxO x y)) H
def spLesser : Sp := fun vs H Q _ => ∃ x y : Option Int, vs = [lv x, lv y] ∧ Q (lv (minO x y)) H
section
variable {P : Program} {w : World} {K : PySem.W.Frag} {mg : Str → Option Value} {base : Heap}
theorem ok_greater (D : Df K mg "greater" s_greater ["one", "other"]) (C_at_most : HasO P w K mg base 1 "at_most" ["one", "other"] spAtMost) : HasO P w K mg base 2 "greater" ["one", "other"] spGreater := by
  refine D.hasO sc_greater (fun vs H Q E h => ?_) (fun f cdv A outer s H vs Q E hr h => ?_)
  · obtain ⟨x, y, rfl, _⟩ := h
    rfl
  · obtain ⟨x, y, rfl, k⟩ := h
    refine ⟨_, (pss_one (ps_ret (pe_ifExp (pt_val (pe_hasO C_at_most (hr.mono (by decide)) rfl (pa_cons (pv 0) (pa_cons (pv 1) pa_nil)))) (pv 1) (pv 0)))), ?_⟩
    unfold maxO at k
    refine ⟨_, rfl, _, rfl, x, y, rfl, _, rfl, ?_⟩
    refine ite2 (fun hc => ?_) (fun hc => ?_)
    · rw [if_pos hc] at k
      exact ⟨_, rfl, k⟩
    · rw [if_neg hc] at k
      exact ⟨_, rfl, k⟩
theorem ok_lesser (D : Df K mg "lesser" s_lesser ["one", "other"]) (C_at_most : HasO P w K mg base 1 "at_most" ["one", "other"] spAtMost) : HasO P w K mg base 2 "lesser" ["one", "other"] spLesser := by
  refine D.hasO sc_lesser (fun vs H Q E h => ?_) (fun f cdv A outer s H vs Q E hr h => ?_)
  · obtain ⟨x, y, rfl, _⟩ := h
    rfl
  · obtain ⟨x, y, rfl, k⟩ := h
    refine ⟨_, (pss_one (ps_ret (pe_ifExp (pt_val (pe_hasO C_at_most (hr.mono (by decide)) rfl (pa_cons (pv 0) (pa_cons (pv 1) pa_nil)))) (pv 0) (pv 1)))), ?_⟩
    unfold minO at k
    refine ⟨_, rfl, _, rfl, x, y, rfl, _, rfl, ?_⟩
    refine ite2 (fun hc => ?_) (fun hc => ?_)
    · rw [if_pos hc] at k
      exact ⟨_, rfl, k⟩
    · rw [if_neg hc] at k
      exact ⟨_, rfl, k⟩
end
abbrev s_bands : Stmt := (top 9)
abbrev N_bands : List Str := ["rule", "tick", "bands", "step", "high", "life", "low"]
theorem sc_bands : FnScope N_bands ["rule", "tick"] (defScope s_bands) :=
  ⟨rfl, rfl, rfl, by decide +kernel, rfl, by decide +kernel, by decide +kernel⟩
def spBands (C : Addr) : Sp := fun vs H Q _ => ∃ (r : Addr) (tick : Int) (ls : List (Option Int)), vs = [.ref r, .int tick] ∧ RuleAt C H r ls ∧ ls.length ≤ 61 ∧
  ∀ (D : Addr) (xs : List V) (H' : Hp), Same H H' → H' D = some (.lst xs) → TAt H' xs ((bandsOf tick 0 tick ls).map bandV) → Q (.ref D) H'
section
variable {P : Program} {w : World} {K : PySem.W.Frag} {mg : Str → Option Value} {base : Heap} {C CR : Addr} {mc : Value} {fInit pAre fAre : Addr} {fdAre : FuncData}
theorem ok_bands {fLv pLv : Addr} {fdLv : FuncData} (D : Df K mg "_bands" s_bands ["rule", "tick"]) (T : Bl mg) (R : RuleT K mg C CR mc fInit pAre fAre fdAre) (M_lv : PropOf K C "lives" pLv fLv) (F_lives : FnOk P w K mg base CX0 1 fLv fdLv ["self"] (spLivesP C)) (b_lives : Binds K fdLv ["self"] [])
    (C_at_most : HasO P w K mg base 1 "at_most" ["one", "other"] spAtMost) : HasO P w K mg base 3 "_bands" ["rule", "tick"] (spBands C) := by
  refine D.hasO sc_bands (fun vs H Q E h => ?_) (fun f cdv A outer s H vs Q E hr h => ?_)
  · obtain ⟨r, tick, ls, rfl, _⟩ := h
    rfl
  · obtain ⟨r, tick, ls, rfl, ra, hl, k⟩ := h
    refine ⟨_, (pss_cons (ps_set (i := 2) sc_bands.nd rfl (Or.inl rfl) (pe_lst pa_nil))
      (pss_cons (ps_par (i := 3) (j := 4) rfl sc_bands.nd rfl rfl (by decide) rfl rfl (pa_cons pe_int (pa_cons (pv 1) pa_nil)) (by rfl))
      (pss_cons (ps_for PassesOwn.never rfl (pi_tup (pe_prop (pv 0) R.cl M_lv F_lives (hr.mono (by decide)) b_lives .nil pass0 rfl)) (pg_name (i := 5) sc_bands.nd rfl (Or.inl rfl)) (pss_cons (ps_set (i := 6) sc_bands.nd rfl (Or.inl rfl) (pe_ifExp (pt_val (pe_hasO C_at_most (hr.mono (by decide)) rfl (pa_cons (pe_op op_add (pv 1) pe_int) (pa_cons (pv 5) pa_nil)))) pe_int (pe_op op_sub (pe_op op_add (pv 1) pe_int) (pv 5))))
      (pss_cons (ps_expr (pe_bm PySem.F.plainAttrs_list PySem.F.slot_list_append PySem.F.type_list_append mt_append (pv 2) (pa_cons (pe_tup (pa_cons (pv 6) (pa_cons (pv 4) (pa_cons (pv 3) pa_nil)))) pa_nil)))
      (pss_one (ps_par (i := 3) (j := 4) rfl sc_bands.nd rfl rfl (by decide) rfl rfl (pa_cons (pe_op op_mul pe_int (pv 3)) (pa_cons (pe_op op_sub (pv 6) pe_int) pa_nil)) (by rfl))))))
      (pss_one (ps_ret (pv 2)))))), ?_⟩
    refine ⟨Nat.zero_le _, fun F hF => ?_⟩
    have ra1 := ra.same (same_upd (o := .lst []) hF)
    obtain ⟨dx, t0, hr1, hr2⟩ := id ra1
    refine ⟨_, rfl, _, _, rfl, _, rfl, r, _, _, rfl, hr1, r, ls, rfl, ra1, fun t et => ?_⟩
    have nFt : F ≠ t := (ne_of et (upd_same (H := H) (a := F) (o := .lst [])) (by intro z; cases z)).symm
    have et0 : H t = some (.tup (ls.map lv)) := by
      rw [upd_ne nFt.symm] at et
      exact et
    refine ⟨t, rfl, ⟨_, SqT.of et⟩, for_tup (xs := ls.map lv) (fun i σ H' => ∃ xs acc hi v5 v6, σ = [some (.ref r), some (.int tick), some (.ref F), some (.int (2 ^ i)), some (.int hi), v5, v6] ∧ H' F = some (.lst xs) ∧ TAt H' xs ((acc : List (Int × Int × Int)).map bandV) ∧ acc.length ≤ i ∧ acc ++ bandsOf tick i hi (ls.drop i) = bandsOf tick 0 tick ls ∧ Same H H')
      ⟨[], [], tick, none, none, rfl, upd_same, trivial, Nat.le_refl _, rfl, same_upd hF⟩ (fun i σ H' _ z => ?_) ?_ ?_⟩
    · obtain ⟨_, _, _, _, _, _, _, _, _, _, sm⟩ := z
      exact SqT.of (sm _ _ et0)
    · rintro i x σ H1 hx ⟨xs, acc, hi, v5, v6, rfl, eF, ta, hal, e, sm⟩
      obtain ⟨l, hll, rfl⟩ := map_at hx
      have hi2 := (List.getElem?_eq_some_iff.mp hll).1
      rw [drop_cons hll] at e
      have e2 : (2 : Int) * 2 ^ i = 2 ^ (i + 1) := by rw [Int.pow_succ, Int.mul_comm]
      refine ⟨_, rfl, _, _, rfl, rfl, _, rfl, some (tick + 1), l, rfl, _, rfl, ?_⟩
      cases l with
      | none =>
        refine ite2 (fun _ => ?_) (fun z => absurd rfl z)
        refine ⟨_, rfl, .inl ⟨rfl, _, SqL.of eF⟩, _, rfl, _, rfl, _, rfl, by show 3 ≤ sizeLine; decide, fun p hp => ?_⟩
        have nFp : F ≠ p := ne_of_none eF hp
        refine ⟨F, _, _, rfl, rfl, same_upd hp _ _ eF, small1000 (by rw [ta.length, List.length_map]; omega), ?_⟩
        refine ⟨_, rfl, _, _, rfl, rfl, .inl ⟨by decide, by decide⟩, _, rfl, _, _, rfl, rfl, _, _, rfl, xs ++ [V.ref p], acc ++ [(0, hi, 2 ^ i)], 0 - 1, _, _, congrArg (fun z => [some (V.ref r), some (.int tick), some (V.ref F), some (V.int z), some (V.int (0 - 1)), _, _]) e2, upd_same, ?_, by rw [List.length_append]; show acc.length + 1 ≤ i + 1; omega, by rw [List.append_assoc]; exact e, ?_⟩
        · rw [List.map_append]
          exact TAt.snoc (by rw [upd_ne nFp.symm]; exact upd_same) ((ta.same (same_upd hp)).upd (same_upd hp _ _ eF))
        · intro b o z
          rw [upd_ne (ne_of_none z hF)]
          exact same_upd hp _ _ (sm b o z)
      | some b =>
        have eu : bandsOf tick i hi (some b :: ls.drop (i + 1)) = (if tick + 1 ≤ b then 0 else tick + 1 - b, hi, 2 ^ i) :: bandsOf tick (i + 1) ((if tick + 1 ≤ b then 0 else tick + 1 - b) - 1) (ls.drop (i + 1)) := rfl
        rw [eu] at e
        refine ite2 (fun hc => ?_) (fun hc => ?_)
        · have hc' : tick + 1 ≤ b := of_decide_eq_true hc
          rw [if_pos hc'] at e
          refine ⟨_, rfl, .inl ⟨rfl, _, SqL.of eF⟩, _, rfl, _, rfl, _, rfl, by show 3 ≤ sizeLine; decide, fun p hp => ?_⟩
          have nFp : F ≠ p := ne_of_none eF hp
          refine ⟨F, _, _, rfl, rfl, same_upd hp _ _ eF, small1000 (by rw [ta.length, List.length_map]; omega), ?_⟩
          refine ⟨_, rfl, _, _, rfl, rfl, .inl ⟨by decide, by decide⟩, _, rfl, _, _, rfl, rfl, _, _, rfl, xs ++ [V.ref p], acc ++ [(0, hi, 2 ^ i)], 0 - 1, _, _, congrArg (fun z => [some (V.ref r), some (.int tick), some (V.ref F), some (V.int z), some (V.int (0 - 1)), _, _]) e2, upd_same, ?_, by rw [List.length_append]; show acc.length + 1 ≤ i + 1; omega, by rw [List.append_assoc]; exact e, ?_⟩
          · rw [List.map_append]
            exact TAt.snoc (by rw [upd_ne nFp.symm]; exact upd_same) ((ta.same (same_upd hp)).upd (same_upd hp _ _ eF))
          · intro b o z
            rw [upd_ne (ne_of_none z hF)]
            exact same_upd hp _ _ (sm b o z)
        · have hc' : ¬ tick + 1 ≤ b := fun z => hc (decide_eq_true z)
          rw [if_neg hc'] at e
          refine ⟨_, rfl, _, _, rfl, rfl, _, rfl, _, _, rfl, rfl, ?_⟩
          refine ⟨_, rfl, .inl ⟨rfl, _, SqL.of eF⟩, _, rfl, _, rfl, _, rfl, by show 3 ≤ sizeLine; decide, fun p hp => ?_⟩
          have nFp : F ≠ p := ne_of_none eF hp
          refine ⟨F, _, _, rfl, rfl, same_upd hp _ _ eF, small1000 (by rw [ta.length, List.length_map]; omega), ?_⟩
          refine ⟨_, rfl, _, _, rfl, rfl, .inl ⟨by decide, by decide⟩, _, rfl, _, _, rfl, rfl, _, _, rfl, xs ++ [V.ref p], acc ++ [((tick + 1 - b), hi, 2 ^ i)], (tick + 1 - b) - 1, _, _, congrArg (fun z => [some (V.ref r), some (.int tick), some (V.ref F), some (V.int z), some (V.int ((tick + 1 - b) - 1)), _, _]) e2, upd_same, ?_, by rw [List.length_append]; show acc.length + 1 ≤ i + 1; omega, by rw [List.append_assoc]; exact e, ?_⟩
          · rw [List.map_append]
            exact TAt.snoc (by rw [upd_ne nFp.symm]; exact upd_same) ((ta.same (same_upd hp)).upd (same_upd hp _ _ eF))
          · intro b o z
            rw [upd_ne (ne_of_none z hF)]
            exact same_upd hp _ _ (sm b o z)
    · rintro σ H1 ⟨xs, acc, hi, v5, v6, rfl, eF, ta, hal, e, sm⟩
      rw [List.length_map, List.drop_length] at e
      have e3 : acc = bandsOf tick 0 tick ls := by
        rw [← e]
        exact (List.append_nil acc).symm
      rw [e3] at ta
      exact ⟨_, rfl, k F xs H1 sm eF ta⟩
theorem lv_max (a b : Int) : lv (maxO (some a) (some b)) = .int (max a b) := by
  unfold maxO leO
  by_cases h : a ≤ b
  · rw [if_pos (decide_eq_true h)]
    show V.int b = _
    rw [show max a b = b by omega]
  · rw [if_neg (fun z => h (of_decide_eq_true z))]
    show V.int a = _
    rw [show max a b = a by omega]
theorem lv_min (a b : Int) : lv (minO (some a) (some b)) = .int (min a b) := by
  unfold minO leO
  by_cases h : a ≤ b
  · rw [if_pos (decide_eq_true h)]
    show V.int a = _
    rw [show min a b = a by omega]
  · rw [if_neg (fun z => h (of_decide_eq_true z))]
    show V.int b = _
    rw [show min a b = b by omega]
theorem bands_pow (tick : Int) : ∀ (ls : List (Option Int)) (i : Nat) (hi : Int), i + ls.length ≤ 500 → ∀ b ∈ bandsOf tick i hi ls, 0 < b.2.2 ∧ b.2.2.natAbs < 2 ^ 600
  | [], _, _, _, b, hb => nomatch hb
  | l :: r, i, hi, hl, b, hb => by
    have hl' : i + 1 + r.length ≤ 500 := by simp at hl; omega
    rcases List.mem_cons.mp hb with rfl | hb
    · exact ⟨pow2_pos i, by show ((2 : Int) ^ i).natAbs < 2 ^ 600; rw [pow2_natAbs]; exact Nat.pow_lt_pow_right (by decide) (by omega)⟩
    · exact bands_pow tick r (i + 1) _ hl' b hb
end
abbrev s_restore_point : Stmt := (top 7)
abbrev N_restore_point : List Str := ["rule", "tick", "age", "low", "high", "step", "latest", "point"]
theorem sc_restore_point : FnScope N_restore_point ["rule", "tick", "age"] (defScope s_restore_point) :=
  ⟨rfl, rfl, rfl, by decide +kernel, rfl, by decide +kernel, by decide +kernel⟩
abbrev s_distance : Stmt := (top 8)
abbrev N_distance : List Str := ["rule", "tick", "age", "point"]
theorem sc_distance : FnScope N_distance ["rule", "tick", "age"] (defScope s_distance) :=
  ⟨rfl, rfl, rfl, by decide +kernel, rfl, by decide +kernel, by decide +kernel⟩
def spRp (C : Addr) : Sp := fun vs H Q _ => ∃ (r : Addr) (t a : Int) (ls : List (Option Int)), vs = [.ref r, .int t, .int a] ∧ RuleAt C H r ls ∧ ls.length ≤ 61 ∧ ∀ H', Same H H' → Q (lv (rpO ls t (t - a))) H'
def spDist (C : Addr) : Sp := fun vs H Q _ => ∃ (r : Addr) (t a : Int) (ls : List (Option Int)), vs = [.ref r, .int t, .int a] ∧ RuleAt C H r ls ∧ ls.length ≤ 61 ∧ ∀ H', Same H H' → Q (lv (distO ls t a)) H'
section
variable {P : Program} {w : World} {K : PySem.W.Frag} {mg : Str → Option Value} {base : Heap} {C CR : Addr} {mc : Value} {fInit pAre fAre : Addr} {fdAre : FuncData}
theorem ok_rp (D : Df K mg "restore_point" s_restore_point ["rule", "tick", "age"]) (C_bands : HasO P w K mg base 3 "_bands" ["rule", "tick"] (spBands C)) (C_lesser : HasO P w K mg base 2 "lesser" ["one", "other"] spLesser) : HasO P w K mg base 4 "restore_point" ["rule", "tick", "age"] (spRp C) := by
  refine D.hasO sc_restore_point (fun vs H Q E h => ?_) (fun f cdv A outer s H vs Q E hr h => ?_)
  · obtain ⟨r, t, a, ls, rfl, _⟩ := h
    rfl
  · obtain ⟨r, t, a, ls, rfl, ra, hl, k⟩ := h
    refine ⟨_, (pss_cons (ps_for PassesOwn.never rfl (pi_list (pe_hasO C_bands (hr.mono (by decide)) rfl (pa_cons (pv 0) (pa_cons (pv 1) pa_nil)))) (pg_tup rfl (pgs_cons (pg_name (i := 3) sc_restore_point.nd rfl (Or.inl rfl)) (pgs_cons (pg_name (i := 4) sc_restore_point.nd rfl (Or.inl rfl)) (pgs_cons (pg_name (i := 5) sc_restore_point.nd rfl (Or.inl rfl)) pgs_nil)))) (pss_cons (ps_set (i := 6) sc_restore_point.nd rfl (Or.inl rfl) (pe_hasO C_lesser (hr.mono (by decide)) rfl (pa_cons (pv 4) (pa_cons (pe_op op_sub (pv 1) (pv 2)) pa_nil))))
      (pss_cons (ps_set (i := 7) sc_restore_point.nd rfl (Or.inl rfl) (pe_op op_sub (pv 6) (pe_op op_mod (pv 6) (pv 5))))
      (pss_one (ps_if (pt_cmpR op_le (pv 3) (pv 7) (nomark _)) (pss_one (ps_ret (pv 7))) pss_nil)))))
      (pss_one (ps_ret pe_non))), ?_⟩
    refine ⟨_, rfl, _, rfl, r, t, ls, rfl, ra, hl, fun B xs H1 s1 eB ta => ?_⟩
    have hpw := bands_pow t ls 0 t (by omega)
    unfold rpO at k
    generalize bandsOf t 0 t ls = bs at *
    refine ⟨B, rfl, ⟨_, SqL.of eB⟩, for_list (xs := xs) (fun i σ H' => Same H1 H' ∧ ∃ v3 v4 v5 v6 v7, σ = [some (.ref r), some (.int t), some (.int a), v3, v4, v5, v6, v7] ∧ rpB bs (t - a) = rpB (bs.drop i) (t - a)) ⟨Same.refl _, none, none, none, none, none, rfl, rfl⟩ (fun i σ H' _ z => SqL.of (z.1 _ _ eB)) ?_ ?_⟩
    · rintro i x σ H2 hx ⟨s2, v3, v4, v5, v6, v7, rfl, e⟩
      obtain ⟨u, y, rfl, hy, hu⟩ := ta.get hx
      obtain ⟨⟨b1, b2, b3⟩, hb, rfl⟩ : ∃ b : Int × Int × Int, bs[i]? = some b ∧ y = bandV b := by
        rw [List.getElem?_map] at hy
        cases e : bs[i]? with
        | none => rw [e] at hy; cases hy
        | some b =>
          rw [e] at hy
          exact ⟨b, rfl, (Option.some.inj hy).symm⟩
      obtain ⟨w0, w1⟩ := hpw _ (List.mem_of_getElem? hb)
      rw [drop_cons hb] at e
      have eu : rpB ((b1, b2, b3) :: bs.drop (i + 1)) (t - a) = if b1 ≤ min b2 (t - a) - min b2 (t - a) % b3 then some (min b2 (t - a) - min b2 (t - a) % b3) else rpB (bs.drop (i + 1)) (t - a) := rfl
      rw [eu] at e
      refine ⟨u, _, rfl, SqT.of (s2 _ _ hu), rfl, _, _, rfl, _, _, rfl, _, _, rfl, rfl, ?_⟩
      refine ⟨_, rfl, _, rfl, _, rfl, _, _, rfl, rfl, some b2, some (t - a), rfl, ?_⟩
      rw [lv_min]
      refine ⟨_, rfl, _, rfl, _, rfl, _, _, rfl, rfl, w0, _, _, rfl, rfl, ?_⟩
      refine ⟨_, rfl, _, rfl, _, _, rfl, rfl, _, rfl, ?_⟩
      refine ite2 (fun hc => ?_) (fun hc => ?_)
      · have hc' : b1 ≤ min b2 (t - a) - min b2 (t - a) % b3 := of_decide_eq_true hc
        rw [if_pos hc'] at e
        have q := k H2 (s1.trans s2)
        rw [e] at q
        exact ⟨_, rfl, q⟩
      · have hc' : ¬ b1 ≤ min b2 (t - a) - min b2 (t - a) % b3 := fun z => hc (decide_eq_true z)
        rw [if_neg hc'] at e
        exact ⟨s2, _, _, _, _, _, rfl, e⟩
    · rintro σ H2 ⟨s2, v3, v4, v5, v6, v7, rfl, e⟩
      have el : xs.length = bs.length := by rw [ta.length, List.length_map]
      rw [el, List.drop_length] at e
      have q := k H2 (s1.trans s2)
      rw [e] at q
      exact q
theorem ok_dist (D : Df K mg "distance" s_distance ["rule", "tick", "age"]) (C_restore_point : HasO P w K mg base 4 "restore_point" ["rule", "tick", "age"] (spRp C)) : HasO P w K mg base 5 "distance" ["rule", "tick", "age"] (spDist C) := by
  refine D.hasO sc_distance (fun vs H Q E h => ?_) (fun f cdv A outer s H vs Q E hr h => ?_)
  · obtain ⟨r, t, a, ls, rfl, _⟩ := h
    rfl
  · obtain ⟨r, t, a, ls, rfl, ra, hl, k⟩ := h
    refine ⟨_, (pss_cons (ps_set (i := 3) sc_distance.nd rfl (Or.inl rfl) (pe_hasO C_restore_point (hr.mono (by decide)) rfl (pa_cons (pv 0) (pa_cons (pv 1) (pa_cons (pv 2) pa_nil)))))
      (pss_one (ps_ret (pe_ifExp (pt_cmpR op_isN (pv 3) pe_non (nomark _)) pe_non (pe_op op_sub (pe_op op_sub (pv 1) (pv 2)) (pv 3)))))), ?_⟩
    refine ⟨_, rfl, _, rfl, _, rfl, r, t, a, ls, rfl, ra, hl, fun H1 s1 => ?_⟩
    have q := k H1 s1
    unfold distO at q
    cases e : rpO ls t (t - a) with
    | none =>
      rw [e] at q
      refine ⟨_, rfl, rfl, _, rfl, ?_⟩
      refine ite2 (fun _ => ?_) (fun z => absurd rfl z)
      exact q
    | some p =>
      rw [e] at q
      refine ⟨_, rfl, rfl, _, rfl, ?_⟩
      refine ite2 (fun z => by have q := of_decide_eq_true z; cases q) (fun _ => ?_)
      exact ⟨_, rfl, _, rfl, _, _, rfl, rfl, _, rfl, _, _, rfl, rfl, q⟩
end
abbrev s_worst : Stmt := (top 25)
abbrev N_worst : List Str := ["rule", "age"]
theorem sc_worst : FnScope N_worst ["rule", "age"] (defScope s_worst) :=
  ⟨rfl, rfl, rfl, by decide +kernel, rfl, by decide +kernel, by decide +kernel⟩
theorem short_le (ls : List (Option Int)) : (short ls).length ≤ ls.length := by
  unfold short
  rw [List.length_take]
  omega
theorem RuleAt.but {C r a : Addr} {n : Nat} {H H' : Hp} {ls : List (Option Int)} (h : RuleAt C H r ls) (p : PotAt H a n) (b : But a H H') : RuleAt C H' r ls := by
  obtain ⟨dx, t, h1, h2⟩ := h
  obtain ⟨g, s, c, e, _⟩ := p
  exact ⟨dx, t, b _ _ h1 (ne_of h1 e (by intro z; cases z)), b _ _ h2 (ne_of h2 e (by intro z; cases z))⟩
section
variable {P : Program} {w : World} {K : PySem.W.Frag} {mg : Str → Option Value} {base : Heap} {C fCall : Addr}
theorem ok_worstP (D : Df K mg "worst" s_worst ["rule", "age"]) (MCall : StX.CallO K C fCall) (G_call : FnR P w K mg base CX0 2 fCall (spCall C)) : HasO P w K mg base 3 "worst" ["rule", "age"] (spCall C) := by
  refine D.hasO sc_worst (fun vs H Q E h => ?_) (fun f cdv A outer s H vs Q E hr h => ?_)
  · obtain ⟨r, a, ls, rfl, _⟩ := h
    rfl
  · obtain ⟨r, a, ls, rfl, ra, hl, k⟩ := h
    refine ⟨_, (pss_one (ps_ret (StX.pe_callO (pv 0) MCall G_call (hr.mono (by decide)) pass0 (pa_cons (pv 1) pa_nil)))), ?_⟩
    obtain ⟨dx, t, hr1, hr2⟩ := id ra
    exact ⟨_, rfl, r, rfl, _, rfl, .inr ⟨dx, _, hr1⟩, r, a, ls, rfl, ra, hl, k⟩
end
abbrev s_worst_tick : Stmt := (top 26)
abbrev N_worst_tick : List Str := ["rule", "age", "found"]
theorem sc_worst_tick : FnScope N_worst_tick ["rule", "age"] (defScope s_worst_tick) :=
  ⟨rfl, rfl, rfl, by decide +kernel, rfl, by decide +kernel, by decide +kernel⟩
def wtO (ls : List (Option Int)) (a : Int) : Int := match idx 0 ls a with
  | some j => a + (2 ^ j - 1)
  | none => a + (2 ^ (ls.length - 1) - 1)
def spWT (C : Addr) : Sp := fun vs H Q _ => ∃ (r : Addr) (a : Int) (ls : List (Option Int)), vs = [.ref r, .int a] ∧ RuleAt C H r ls ∧ 0 < ls.length ∧ ls.length ≤ 61 ∧ ∀ H', Same H H' → Q (.int (wtO ls a)) H'
section
variable {P : Program} {w : World} {K : PySem.W.Frag} {mg : Str → Option Value} {base : Heap} {C CR : Addr} {mc : Value} {fInit pAre fAre : Addr} {fdAre : FuncData}
theorem ok_wt {fLv pLv : Addr} {fdLv : FuncData} (D : Df K mg "worst_tick" s_worst_tick ["rule", "age"]) (T : Bl mg) (R : RuleT K mg C CR mc fInit pAre fAre fdAre) (M_lv : PropOf K C "lives" pLv fLv) (F_lives : FnOk P w K mg base CX0 1 fLv fdLv ["self"] (spLivesP C)) (b_lives : Binds K fdLv ["self"] [])
    (C_worst : HasO P w K mg base 3 "worst" ["rule", "age"] (spCall C)) : HasO P w K mg base 4 "worst_tick" ["rule", "age"] (spWT C) := by
  refine D.hasO sc_worst_tick (fun vs H Q E h => ?_) (fun f cdv A outer s H vs Q E hr h => ?_)
  · obtain ⟨r, a, ls, rfl, _⟩ := h
    rfl
  · obtain ⟨r, a, ls, rfl, ra, h0, hl, k⟩ := h
    refine ⟨_, (pss_cons (ps_set (i := 2) sc_worst_tick.nd rfl (Or.inl rfl) (pe_hasO C_worst (hr.mono (by decide)) rfl (pa_cons (pv 0) (pa_cons (pv 1) pa_nil))))
      (pss_cons (ps_if (pt_cmpR op_isN (pv 2) pe_non (nomark _)) (pss_one (ps_set (i := 2) sc_worst_tick.nd rfl (Or.inl rfl) (pe_op op_sub (pe_op op_shlW pe_int (pe_op op_sub (pe_callB call_len_seq (by rfl) T.len PySem.boot_len (pa_cons (pe_prop (pv 0) R.cl M_lv F_lives (hr.mono (by decide)) b_lives .nil pass0 rfl) pa_nil)) pe_int)) pe_int))) pss_nil)
      (pss_one (ps_ret (pe_op op_add (pv 1) (pv 2)))))), ?_⟩
    have q := k H (Same.refl _)
    unfold wtO at q
    refine ⟨_, rfl, _, rfl, r, a, ls, rfl, ra, hl, ?_⟩
    rw [due_idx]
    cases e : idx 0 ls a with
    | none =>
      rw [e] at q
      refine ⟨_, rfl, rfl, _, rfl, ?_⟩
      refine ite2 (fun _ => ?_) (fun z => absurd rfl z)
      obtain ⟨dx, t0, hr1, hr2⟩ := id ra
      refine ⟨_, rfl, r, _, _, rfl, hr1, r, ls, rfl, ra, fun t et => ?_⟩
      obtain ⟨n, hn⟩ : ∃ n, ls.length = n + 1 := ⟨ls.length - 1, by omega⟩
      have el : (((ls.map lv).length : Nat) : Int) - 1 = (n : Int) := by
        rw [List.length_map, hn]
        omega
      refine ⟨t, _, rfl, .inr (SqT.of et), _, _, rfl, rfl, _, _, rfl, rfl, shl_int (n := 1) (by decide) (by show (0 : Int) ≤ (((ls.map lv).length : Nat) : Int) - 1; omega) (by show ((1 : Nat) : Int) + ((((ls.map lv).length : Nat) : Int) - 1) ≤ 134217728; omega), _, _, rfl, rfl, ?_⟩
      refine ⟨_, rfl, _, rfl, _, _, rfl, rfl, ?_⟩
      have e2 : (1 : Int) * 2 ^ ((((ls.map lv).length : Nat) : Int) - 1).toNat = 2 ^ (ls.length - 1) := by
        rw [el, hn, Int.one_mul, Int.toNat_natCast]
        rfl
      rw [← e2] at q
      exact q
    | some j =>
      rw [e] at q
      refine ⟨_, rfl, rfl, _, rfl, ?_⟩
      refine ite2 (fun z => by have q := of_decide_eq_true z; cases q) (fun _ => ?_)
      exact ⟨_, rfl, _, rfl, _, _, rfl, rfl, q⟩
end
abbrev s_promised : Stmt := (top 27)
abbrev N_promised : List Str := ["rule", "found", "reach", "step", "life", "farther"]
theorem sc_promised : FnScope N_promised ["rule"] (defScope s_promised) :=
  ⟨rfl, rfl, rfl, by decide +kernel, rfl, by decide +kernel, by decide +kernel⟩
def spPromised (C : Addr) : Sp := fun vs H Q _ => ∃ (r : Addr) (ls : List (Option Int)), vs = [.ref r] ∧ RuleAt C H r ls ∧ ls.length ≤ 61 ∧
  ∀ (t : Addr) (xs : List V) (H' : Hp), Same H H' → H' t = some (.tup xs) → PrAt H' xs (prom 0 (some (-1)) ls) → Q (.ref t) H'
section
variable {P : Program} {w : World} {K : PySem.W.Frag} {mg : Str → Option Value} {base : Heap} {C CR : Addr} {mc : Value} {fInit pAre fAre : Addr} {fdAre : FuncData}
theorem ok_promised {fLv pLv : Addr} {fdLv : FuncData} (D : Df K mg "promised" s_promised ["rule"]) (T : Bl mg) (R : RuleT K mg C CR mc fInit pAre fAre fdAre) (M_lv : PropOf K C "lives" pLv fLv) (F_lives : FnOk P w K mg base CX0 1 fLv fdLv ["self"] (spLivesP C)) (b_lives : Binds K fdLv ["self"] [])
    (C_at_most : HasO P w K mg base 1 "at_most" ["one", "other"] spAtMost) : HasO P w K mg base 3 "promised" ["rule"] (spPromised C) := by
  refine D.hasO sc_promised (fun vs H Q E h => ?_) (fun f cdv A outer s H vs Q E hr h => ?_)
  · obtain ⟨r, ls, rfl, _⟩ := h
    rfl
  · obtain ⟨r, ls, rfl, ra, hl, k⟩ := h
    refine ⟨_, (pss_cons (ps_set (i := 1) sc_promised.nd rfl (Or.inl rfl) (pe_lst pa_nil))
      (pss_cons (ps_set (i := 2) sc_promised.nd rfl (Or.inl rfl) (pe_un un_neg pe_int))
      (pss_cons (ps_set (i := 3) sc_promised.nd rfl (Or.inl rfl) pe_int)
      (pss_cons (ps_for PassesOwn.never rfl (pi_tup (pe_prop (pv 0) R.cl M_lv F_lives (hr.mono (by decide)) b_lives .nil pass0 rfl)) (pg_name (i := 4) sc_promised.nd rfl (Or.inl rfl)) (pss_cons (ps_set (i := 5) sc_promised.nd rfl (Or.inl rfl) (pe_ifExp (pt_cmpR op_isN (pv 4) pe_non (nomark _)) pe_non (pe_op op_sub (pv 4) (pv 3))))
      (pss_cons (ps_if (pt_not (pt_val (pe_hasO C_at_most (hr.mono (by decide)) rfl (pa_cons (pv 5) (pa_cons (pv 2) pa_nil))))) (pss_cons (ps_expr (pe_bm PySem.F.plainAttrs_list PySem.F.slot_list_append PySem.F.type_list_append mt_append (pv 1) (pa_cons (pe_tup (pa_cons (pv 5) (pa_cons (pe_op op_sub (pv 3) pe_int) pa_nil))) pa_nil)))
      (pss_one (ps_set (i := 2) sc_promised.nd rfl (Or.inl rfl) (pv 5)))) pss_nil)
      (pss_one (ps_set (i := 3) sc_promised.nd rfl (Or.inl rfl) (pe_op op_mul pe_int (pv 3)))))))
      (pss_one (ps_ret (pe_callTy call_tuple_of (by rfl) T.tuple (by decide +kernel) (pa_cons (pv 1) pa_nil)))))))), ?_⟩
    refine ⟨Nat.zero_le _, fun F hF => ?_⟩
    have ra1 := ra.same (same_upd (o := .lst []) hF)
    obtain ⟨dx, t0, hr1, hr2⟩ := id ra1
    refine ⟨_, rfl, _, rfl, r, _, _, rfl, hr1, r, ls, rfl, ra1, fun t et => ?_⟩
    have nFt : F ≠ t := (ne_of et (upd_same (H := H) (a := F) (o := .lst [])) (by intro z; cases z)).symm
    have et0 : H t = some (.tup (ls.map lv)) := by
      rw [upd_ne nFt.symm] at et
      exact et
    refine ⟨t, rfl, ⟨_, SqT.of et⟩, for_tup (xs := ls.map lv) (fun i σ H' => ∃ xs acc reach v4 v5, σ = [some (.ref r), some (.ref F), some (lv reach), some (.int (2 ^ i)), v4, v5] ∧ H' F = some (.lst xs) ∧ PrAt H' xs acc ∧ acc.length ≤ i ∧ acc ++ prom i reach (ls.drop i) = prom 0 (some (-1)) ls ∧ Same H H')
      ⟨[], [], some (-1), none, none, rfl, upd_same, trivial, Nat.le_refl _, rfl, same_upd hF⟩ (fun i σ H' _ z => ?_) ?_ ?_⟩
    · obtain ⟨_, _, _, _, _, _, _, _, _, _, sm⟩ := z
      exact SqT.of (sm _ _ et0)
    · rintro i x σ H1 hx ⟨xs, acc, reach, v4, v5, rfl, eF, pr, hal, e, sm⟩
      obtain ⟨l, hll, rfl⟩ := map_at hx
      have hi := (List.getElem?_eq_some_iff.mp hll).1
      rw [drop_cons hll] at e
      have eu : prom i reach (l :: ls.drop (i + 1)) = if leO (offO i l) reach = true then prom (i + 1) reach (ls.drop (i + 1)) else (offO i l, 2 ^ i - 1) :: prom (i + 1) (offO i l) (ls.drop (i + 1)) := rfl
      rw [eu] at e
      have e2 : (2 : Int) * 2 ^ i = 2 ^ (i + 1) := by rw [Int.pow_succ, Int.mul_comm]
      have hxl : xs.length < sizeLine := small1000 (by rw [pr.length]; omega)
      refine ⟨_, rfl, rfl, _, rfl, ?_⟩
      cases l with
      | none =>
        refine ite2 (fun _ => ?_) (fun z => absurd rfl z)
        refine ⟨_, rfl, _, rfl, offO i none, reach, rfl, _, rfl, ?_⟩
        refine ite2 (fun hc => ?_) (fun hc => ?_)
        · have hc' : ¬ leO (offO i none) reach = true := by
            intro z
            have hc2 : (!leO (offO i none) reach) = true := hc
            rw [z] at hc2
            cases hc2
          rw [if_neg hc'] at e
          refine ⟨_, rfl, .inl ⟨rfl, _, SqL.of eF⟩, _, rfl, _, rfl, _, _, rfl, rfl, by show 2 ≤ sizeLine; decide, fun p hp => ?_⟩
          have nFp : F ≠ p := ne_of_none eF hp
          refine ⟨F, _, _, rfl, rfl, same_upd hp _ _ eF, hxl, ?_⟩
          refine ⟨_, rfl, _, rfl, _, _, rfl, rfl, .inl ⟨by decide, by decide⟩, xs ++ [.ref p], acc ++ [(offO i none, 2 ^ i - 1)], offO i none, _, _, congrArg (fun z => [some (V.ref r), some (V.ref F), some (lv (offO i none)), some (V.int z), _, _]) e2, upd_same, ?_, by rw [List.length_append]; show acc.length + 1 ≤ i + 1; omega, by rw [List.append_assoc]; exact e, ?_⟩
          · refine PrAt.snoc ?_ (pr.keep fun u ys eu => ?_)
            · rw [upd_ne nFp.symm]
              exact upd_same
            · have nuF : u ≠ F := ne_of eu eF (by intro z; cases z)
              rw [upd_ne nuF]
              exact same_upd hp _ _ eu
          · intro b o z
            rw [upd_ne (ne_of_none z hF)]
            exact same_upd hp _ _ (sm b o z)
        · have hc' : leO (offO i none) reach = true := by
            cases z : leO (offO i none) reach with
            | true => rfl
            | false => exact absurd (show (!leO (offO i none) reach) = true by rw [z]; rfl) hc
          rw [if_pos hc'] at e
          exact ⟨_, rfl, _, _, rfl, rfl, .inl ⟨by decide, by decide⟩, xs, acc, reach, _, _, congrArg (fun z => [some (V.ref r), some (V.ref F), some (lv reach), some (V.int z), _, _]) e2, eF, pr, by omega, e, sm⟩
      | some b =>
        refine ite2 (fun z => by have q := of_decide_eq_true z; cases q) (fun _ => ?_)
        refine ⟨_, rfl, _, rfl, _, _, rfl, rfl, ?_⟩
        refine ⟨_, rfl, _, rfl, offO i (some b), reach, rfl, _, rfl, ?_⟩
        refine ite2 (fun hc => ?_) (fun hc => ?_)
        · have hc' : ¬ leO (offO i (some b)) reach = true := by
            intro z
            have hc2 : (!leO (offO i (some b)) reach) = true := hc
            rw [z] at hc2
            cases hc2
          rw [if_neg hc'] at e
          refine ⟨_, rfl, .inl ⟨rfl, _, SqL.of eF⟩, _, rfl, _, rfl, _, _, rfl, rfl, by show 2 ≤ sizeLine; decide, fun p hp => ?_⟩
          have nFp : F ≠ p := ne_of_none eF hp
          refine ⟨F, _, _, rfl, rfl, same_upd hp _ _ eF, hxl, ?_⟩
          refine ⟨_, rfl, _, rfl, _, _, rfl, rfl, .inl ⟨by decide, by decide⟩, xs ++ [.ref p], acc ++ [(offO i (some b), 2 ^ i - 1)], offO i (some b), _, _, congrArg (fun z => [some (V.ref r), some (V.ref F), some (lv (offO i (some b))), some (V.int z), _, _]) e2, upd_same, ?_, by rw [List.length_append]; show acc.length + 1 ≤ i + 1; omega, by rw [List.append_assoc]; exact e, ?_⟩
          · refine PrAt.snoc ?_ (pr.keep fun u ys eu => ?_)
            · rw [upd_ne nFp.symm]
              exact upd_same
            · have nuF : u ≠ F := ne_of eu eF (by intro z; cases z)
              rw [upd_ne nuF]
              exact same_upd hp _ _ eu
          · intro b o z
            rw [upd_ne (ne_of_none z hF)]
            exact same_upd hp _ _ (sm b o z)
        · have hc' : leO (offO i (some b)) reach = true := by
            cases z : leO (offO i (some b)) reach with
            | true => rfl
            | false => exact absurd (show (!leO (offO i (some b)) reach) = true by rw [z]; rfl) hc
          rw [if_pos hc'] at e
          exact ⟨_, rfl, _, _, rfl, rfl, .inl ⟨by decide, by decide⟩, xs, acc, reach, _, _, congrArg (fun z => [some (V.ref r), some (V.ref F), some (lv reach), some (V.int z), _, _]) e2, eF, pr, by omega, e, sm⟩
    · rintro σ H1 ⟨xs, acc, reach, v4, v5, rfl, eF, pr, hal, e, sm⟩
      rw [List.length_map, List.drop_length] at e
      have e3 : acc = prom 0 (some (-1)) ls := by
        rw [← e]
        exact (List.append_nil acc).symm
      refine ⟨_, rfl, F, _, rfl, .inl ⟨SqL.of eF, fun u hu => ?_⟩⟩
      refine k u xs _ (sm.trans (same_upd hu)) upd_same ?_
      rw [← e3]
      exact pr.same (same_upd hu)
end
/-! SPLIT -/
abbrev s_is_pair : Stmt := (top 2)
abbrev N_is_pair : List Str := ["value", "part"]
theorem sc_is_pair : FnScope N_is_pair ["value"] (defScope s_is_pair) :=
  ⟨rfl, rfl, rfl, by decide +kernel, rfl, by decide +kernel, by decide +kernel⟩
def spPair (K : PySem.W.Frag) : Sp := fun vs H Q _ => ∃ (p : Addr) (x y : Int), vs = [.ref p] ∧ SqT K H p [.int x, .int y] ∧ 0 ≤ x ∧ 0 ≤ y ∧ ∀ H', Same H H' → Q (.bl true) H'
section
variable {P : Program} {w : World} {K : PySem.W.Frag} {mg : Str → Option Value} {base : Heap}
theorem ok_pair (D : Df K mg "is_pair" s_is_pair ["value"]) (T : Bl mg) (C_is_natural : HasO P w K mg base 1 "is_natural" ["value"] spNat) : HasO P w K mg base 2 "is_pair" ["value"] (spPair K) := by
  refine D.hasO sc_is_pair (fun vs H Q E h => ?_) (fun f cdv A outer s H vs Q E hr h => ?_)
  · obtain ⟨p, x, y, rfl, _⟩ := h
    rfl
  · obtain ⟨p, x, y, rfl, hp, hx, hy, k⟩ := h
    refine ⟨_, (pss_one (ps_ret (pe_and (pe_callB call_isi (by rfl) T.isinstance (by decide +kernel) (pa_cons (pv 0) (pa_cons (pe_bltn (v := .ty "tuple") (by rfl) T.tuple (by decide +kernel) rfl) pa_nil))) (pe_and (pe_cmpR op_eq (pe_callB call_len_seq (by rfl) T.len PySem.boot_len (pa_cons (pv 0) pa_nil)) pe_int (nomark _)) (pe_one (pe_callB (cr_all rfl) (by rfl) T.all (by decide +kernel) (pa_cons (pe_lc (own := [("part", 1)]) (g := gName 1) (tt := tYes) rfl sc_is_pair.nd (pi_tup (pv 0)) (blkOk_by (N := N_is_pair) (sc := defScope s_is_pair) (by decide +kernel)) (fun _ _ _ _ _ => pg_name (i := 1) sc_is_pair.nd rfl (Or.inl rfl)) (fun _ _ _ _ _ => pts_nil) (fun _ _ _ _ _ => (pe_hasO C_is_natural (hr.mono (by decide)) rfl (pa_cons (pv 1) pa_nil)))) pa_nil))))))), ?_⟩
    refine ⟨_, rfl, _, _, _, _, true, rfl, .ty _, tyx_tup hp, kit_ty (by decide +kernel), ?_⟩
    refine ⟨_, rfl, ?_⟩
    refine ite2 (fun _ => ?_) (fun z => absurd rfl z)
    refine ⟨_, rfl, p, _, rfl, .inr hp, rfl, _, rfl, ?_⟩
    refine ite2 (fun _ => ?_) (fun z => absurd (decide_eq_true rfl) z)
    have yes : ∀ (i : Nat) (v : V), [V.int x, V.int y][i]? = some v → i < 2 ∧ ∃ n : Int, v = .int n ∧ 0 ≤ n := fun i v e => by
      cases i with
      | zero => exact ⟨by decide, x, (Option.some.inj e).symm, hx⟩
      | succ j =>
        cases j with
        | zero => exact ⟨by decide, y, (Option.some.inj e).symm, hy⟩
        | succ l => cases e
    refine ⟨_, rfl, p, rfl, ⟨_, hp⟩, fun D2 hD2 => lc_tup (xs := [V.int x, V.int y]) (fun i H' => H' D2 = some (.lst (List.replicate i (.bl true))) ∧ Same H H') ⟨upd_same, same_upd hD2⟩ (fun i H' _ z => SqT.same z.2 hp) ?_ ?_⟩
    · rintro i v H2 hv ⟨e2, s2⟩
      obtain ⟨hi, n, rfl, hn⟩ := yes i v hv
      refine ⟨rfl, _, rfl, n, rfl, ?_⟩
      refine ⟨_, e2, small1000 (by rw [List.length_replicate]; omega), ?_, fun b o z => ?_⟩
      · rw [upd_same, List.replicate_succ', decide_eq_true hn]
      · rw [upd_ne (ne_of_none z hD2)]
        exact s2 b o z
    · rintro H2 ⟨e2, s2⟩
      refine ⟨D2, List.replicate 2 true, rfl, SqL.of (by rw [e2, List.map_replicate]; rfl), ?_⟩
      exact k _ s2
end
abbrev s_first_beyond : Stmt := (top 31)
abbrev N_first_beyond : List Str := ["rule", "wished", "reach", "age", "promise"]
theorem sc_first_beyond : FnScope N_first_beyond ["rule", "wished"] (defScope s_first_beyond) :=
  ⟨rfl, rfl, rfl, by decide +kernel, rfl, by decide +kernel, by decide +kernel⟩
abbrev s_first_broken : Stmt := (top 29)
abbrev N_first_broken : List Str := ["rule", "wish", "age", "wished", "broken"]
theorem sc_first_broken : FnScope N_first_broken ["rule", "wish"] (defScope s_first_broken) :=
  ⟨rfl, rfl, rfl, by decide +kernel, rfl, by decide +kernel, by decide +kernel⟩
abbrev s_shows_broken : Stmt := (top 30)
abbrev N_shows_broken : List Str := ["rule", "wish", "value", "age", "tick", "wished", "last", "limit"]
theorem sc_shows_broken : FnScope N_shows_broken ["rule", "wish", "value"] (defScope s_shows_broken) :=
  ⟨rfl, rfl, rfl, by decide +kernel, rfl, by decide +kernel, by decide +kernel⟩
def spBeyond (C : Addr) : Sp := fun vs H Q _ => ∃ (r : Addr) (ls : List (Option Int)) (w : Int), vs = [.ref r, .int w] ∧ RuleAt C H r ls ∧ ls.length ≤ 61 ∧ ∀ H', Same H H' → Q (lv ((reachO ls w).map (· + 1))) H'
def spFirst (C : Addr) : Sp := fun vs H Q _ => ∃ (r W : Addr) (ls : List (Option Int)) (xs : List V) (ws : List (Int × Int)), vs = [.ref r, .ref W] ∧ RuleAt C H r ls ∧ 0 < ls.length ∧ ls.length ≤ 61 ∧ H W = some (.tup xs) ∧ TAt H xs (ws.map wV) ∧
  (fbL ls ws = none → ∀ H', Same H H' → Q .non H') ∧ (∀ b, fbL ls ws = some b → ∀ (t : Addr) (H' : Hp), Same H H' → H' t = some (.tup [.int b, .int (wtO ls b)]) → Q (.ref t) H')
section
variable {P : Program} {w : World} {K : PySem.W.Frag} {mg : Str → Option Value} {base : Heap} {C CR : Addr} {mc : Value} {fInit pAre fAre : Addr} {fdAre : FuncData}
theorem ok_beyond (D : Df K mg "_first_beyond" s_first_beyond ["rule", "wished"]) (C_promised : HasO P w K mg base 3 "promised" ["rule"] (spPromised C)) : HasO P w K mg base 4 "_first_beyond" ["rule", "wished"] (spBeyond C) := by
  refine D.hasO sc_first_beyond (fun vs H Q E h => ?_) (fun f cdv A outer s H vs Q E hr h => ?_)
  · obtain ⟨r, ls, wi, rfl, _⟩ := h
    rfl
  · obtain ⟨r, ls, wi, rfl, ra, hl, k⟩ := h
    refine ⟨_, (pss_cons (ps_set (i := 2) sc_first_beyond.nd rfl (Or.inl rfl) (pe_un un_neg pe_int))
      (pss_cons (ps_for PassesOwn.never rfl (pi_tup (pe_hasO C_promised (hr.mono (by decide)) rfl (pa_cons (pv 0) pa_nil))) (pg_tup rfl (pgs_cons (pg_name (i := 3) sc_first_beyond.nd rfl (Or.inl rfl)) (pgs_cons (pg_name (i := 4) sc_first_beyond.nd rfl (Or.inl rfl)) pgs_nil))) (pss_one (ps_if (pt_cmpR op_le (pv 4) (pv 1) (nomark _)) (pss_one (ps_set (i := 2) sc_first_beyond.nd rfl (Or.inl rfl) (pv 3))) pss_nil)))
      (pss_one (ps_ret (pe_ifExp (pt_cmpR op_isN (pv 2) pe_non (nomark _)) pe_non (pe_op op_add (pv 2) pe_int)))))), ?_⟩
    refine ⟨_, rfl, _, rfl, r, ls, rfl, ra, hl, fun t xs H1 s1 et pr => ?_⟩
    unfold reachO at k
    refine ⟨t, rfl, ⟨_, SqT.of et⟩, for_tup (xs := xs) (fun i σ H' => Same H1 H' ∧ ∃ rc v3 v4, σ = [some (.ref r), some (.int wi), some (lv rc), v3, v4] ∧ rch wi ((prom 0 (some (-1)) ls).drop i) rc = rch wi (prom 0 (some (-1)) ls) (some (-1))) ⟨Same.refl _, some (-1), none, none, rfl, rfl⟩ (fun i σ H' _ z => SqT.of (z.1 _ _ et)) ?_ ?_⟩
    · rintro i x σ H2 hx ⟨s2, rc, v3, v4, rfl, e⟩
      obtain ⟨u, p, rfl, hpi, hu⟩ := pr.get hx
      rw [drop_cons hpi] at e
      refine ⟨u, _, rfl, SqT.of (s2 _ _ hu), rfl, _, _, rfl, _, _, rfl, rfl, ?_⟩
      have e2 : rch wi ((prom 0 (some (-1)) ls).drop (i + 1)) (if p.2 ≤ wi then p.1 else rc) = rch wi (prom 0 (some (-1)) ls) (some (-1)) := e
      refine ⟨_, rfl, _, rfl, _, _, rfl, rfl, _, rfl, ?_⟩
      refine ite2 (fun hc => ?_) (fun hc => ?_)
      · rw [if_pos (of_decide_eq_true hc)] at e2
        exact ⟨_, rfl, s2, _, _, _, rfl, e2⟩
      · rw [if_neg (fun z => hc (decide_eq_true z))] at e2
        exact ⟨s2, _, _, _, rfl, e2⟩
    · rintro σ H2 ⟨s2, rc, v3, v4, rfl, e⟩
      rw [pr.length, List.drop_length] at e
      have e2 : rc = rch wi (prom 0 (some (-1)) ls) (some (-1)) := e
      have q := k H2 (s1.trans s2)
      rw [← e2] at q
      cases rc with
      | none =>
        refine ⟨_, rfl, rfl, _, rfl, ?_⟩
        exact ite2 (fun _ => q) (fun z => absurd rfl z)
      | some b =>
        refine ⟨_, rfl, rfl, _, rfl, ?_⟩
        refine ite2 (fun z => by have q := of_decide_eq_true z; cases q) (fun _ => ?_)
        exact ⟨_, rfl, _, _, rfl, rfl, q⟩
theorem ok_first (D : Df K mg "first_broken" s_first_broken ["rule", "wish"]) (C_first_beyond : HasO P w K mg base 4 "_first_beyond" ["rule", "wished"] (spBeyond C)) (C_at_most : HasO P w K mg base 1 "at_most" ["one", "other"] spAtMost) (C_worst_tick : HasO P w K mg base 4 "worst_tick" ["rule", "age"] (spWT C)) : HasO P w K mg base 5 "first_broken" ["rule", "wish"] (spFirst C) := by
  refine D.hasO sc_first_broken (fun vs H Q E h => ?_) (fun f cdv A outer s H vs Q E hr h => ?_)
  · obtain ⟨r, W, ls, xs, ws, rfl, _⟩ := h
    rfl
  · obtain ⟨r, W, ls, xs, ws, rfl, ra, h0, hl, hW, ta, kn, ks⟩ := h
    refine ⟨_, (pss_cons (ps_for PassesOwn.never rfl (pi_tup (pv 1)) (pg_tup rfl (pgs_cons (pg_name (i := 2) sc_first_broken.nd rfl (Or.inl rfl)) (pgs_cons (pg_name (i := 3) sc_first_broken.nd rfl (Or.inl rfl)) pgs_nil))) (pss_cons (ps_set (i := 4) sc_first_broken.nd rfl (Or.inl rfl) (pe_hasO C_first_beyond (hr.mono (by decide)) rfl (pa_cons (pv 0) (pa_cons (pv 3) pa_nil))))
      (pss_one (ps_if (pt_val (pe_hasO C_at_most (hr.mono (by decide)) rfl (pa_cons (pv 4) (pa_cons (pv 2) pa_nil)))) (pss_one (ps_ret (pe_tup (pa_cons (pv 4) (pa_cons (pe_hasO C_worst_tick (hr.mono (by decide)) rfl (pa_cons (pv 0) (pa_cons (pv 4) pa_nil))) pa_nil))))) pss_nil))))
      (pss_one (ps_ret pe_non))), ?_⟩
    refine ⟨_, rfl, W, rfl, ⟨_, SqT.of hW⟩, for_tup (xs := xs) (fun i σ H' => Same H H' ∧ ∃ v2 v3 v4, σ = [some (.ref r), some (.ref W), v2, v3, v4] ∧ fbL ls ws = fbL ls (ws.drop i)) ⟨Same.refl _, none, none, none, rfl, rfl⟩ (fun i σ H' _ z => SqT.of (z.1 _ _ hW)) ?_ ?_⟩
    · rintro i x σ H1 hx ⟨s1, v2, v3, v4, rfl, e⟩
      obtain ⟨t, p, rfl, hpi, ht⟩ := wV_get ta hx
      rw [drop_cons hpi] at e
      have e' : fbL ls ws = if leO ((reachO ls p.2).map (· + 1)) (some p.1) = true then (reachO ls p.2).map (· + 1) else fbL ls (ws.drop (i + 1)) := e
      refine ⟨t, _, rfl, SqT.of (s1 _ _ ht), rfl, _, _, rfl, _, _, rfl, rfl, ?_⟩
      refine ⟨_, rfl, _, rfl, r, ls, p.2, rfl, ra.same s1, hl, fun H2 s2 => ?_⟩
      generalize ((reachO ls p.2).map (· + 1)) = br at *
      refine ⟨_, rfl, _, rfl, br, some p.1, rfl, _, rfl, ?_⟩
      refine ite2 (fun hc => ?_) (fun hc => ?_)
      · have hc' : leO br (some p.1) = true := hc
        rw [if_pos hc'] at e'
        cases br with
        | none => cases hc'
        | some b =>
          refine ⟨_, rfl, _, rfl, _, rfl, r, b, ls, rfl, (ra.same s1).same s2, h0, hl, fun H3 s3 => ?_⟩
          refine ⟨by show 2 ≤ sizeLine; decide, fun u hu => ?_⟩
          exact ks b e' u _ (s1.trans (s2.trans (s3.trans (same_upd hu)))) upd_same
      · have hc' : ¬ leO br (some p.1) = true := hc
        rw [if_neg hc'] at e'
        exact ⟨s1.trans s2, _, _, _, rfl, e'⟩
    · rintro σ H1 ⟨s1, v2, v3, v4, rfl, e⟩
      have el : xs.length = ws.length := by rw [ta.length, List.length_map]
      rw [el, List.drop_length] at e
      exact kn e H1 s1
theorem wish_last {H : Hp} {xs : List V} {ws : List (Int × Int)} (ta : TAt H xs (ws.map wV)) (h : 0 < ws.length) : ∃ ini t q, xs = ini ++ [V.ref t] ∧ ws.getLast? = some q ∧ H t = some (.tup [.int q.1, .int q.2]) := by
  have el : xs.length = ws.length := by rw [ta.length, List.length_map]
  have hne : xs ≠ [] := by
    intro z
    rw [z] at el
    simp at el
    omega
  have ex : xs = xs.dropLast ++ [xs.getLast hne] := (List.dropLast_concat_getLast hne).symm
  have e1 : xs[xs.length - 1]? = some (xs.getLast hne) := by rw [← List.getLast?_eq_getElem?, List.getLast?_eq_some_getLast hne]
  obtain ⟨t, p, e2, e3, e4⟩ := wV_get ta e1
  rw [e2] at ex
  refine ⟨_, t, p, ex, ?_, e4⟩
  rw [List.getLast?_eq_getElem?, ← el]
  exact e3
theorem last_ge {ws : List (Int × Int)} {p q : Int × Int} (asc : ws.Pairwise fun p q => p.1 < q.1 ∧ p.2 < q.2) (hp : p ∈ ws) (hq : ws.getLast? = some q) : p.1 ≤ q.1 := by
  obtain ⟨ini, rfl⟩ := List.getLast?_eq_some_iff.mp hq
  rcases List.mem_append.mp hp with h | h
  · have := ((List.pairwise_append.mp asc).2.2 p h q (List.mem_singleton.mpr rfl)).1
    omega
  · rw [List.mem_singleton.mp h]
    exact Int.le_refl _
def spShowsB (K : PySem.W.Frag) (C : Addr) : Sp := fun vs H Q _ => ∃ (r W p : Addr) (ls : List (Option Int)) (xs : List V) (ws : List (Int × Int)) (b t : Int) (q : Int × Int), vs = [.ref r, .ref W, .ref p] ∧ RuleAt C H r ls ∧ ls.length ≤ 61 ∧ H W = some (.tup xs) ∧ TAt H xs (ws.map wV) ∧ WOk ws ∧
  SqT K H p [.int b, .int t] ∧ 0 ≤ b ∧ b ≤ t ∧ stepAt ws b = some q ∧ ∀ H', Same H H' → Q (.bl (!leO (distO ls t b) (some q.2))) H'
theorem ok_showsB (D : Df K mg "shows_broken" s_shows_broken ["rule", "wish", "value"]) (C_is_pair : HasO P w K mg base 2 "is_pair" ["value"] (spPair K)) (C_distance : HasO P w K mg base 5 "distance" ["rule", "tick", "age"] (spDist C)) (C_at_most : HasO P w K mg base 1 "at_most" ["one", "other"] spAtMost) : HasO P w K mg base 6 "shows_broken" ["rule", "wish", "value"] (spShowsB K C) := by
  refine D.hasO sc_shows_broken (fun vs H Q E h => ?_) (fun f cdv A outer s H vs Q E hr h => ?_)
  · obtain ⟨r, W, p, ls, xs, ws, b, t, q, rfl, _⟩ := h
    rfl
  · obtain ⟨r, W, p, ls, xs, ws, b, t, q, rfl, ra, hl, hW, ta, ok, hp, b0, bt, hq, k⟩ := h
    refine ⟨_, (pss_cons (ps_if (pt_not (pt_val (pe_hasO C_is_pair (hr.mono (by decide)) rfl (pa_cons (pv 2) pa_nil)))) (pss_one (ps_ret pe_bl)) pss_nil)
      (pss_cons (ps_asg (pv 2) (pg_tup rfl (pgs_cons (pg_name (i := 3) sc_shows_broken.nd rfl (Or.inr rfl)) (pgs_cons (pg_name (i := 4) sc_shows_broken.nd rfl (Or.inl rfl)) pgs_nil))))
      (pss_cons (ps_if (PW.pt (pw_or (pt_cmpR op_gt (pv 3) (pe_ix ix_tup (pe_ix ix_tup (pv 1) (pe_un un_neg pe_int) (fun _ _ => rfl)) pe_int (fun _ _ => rfl)) (nomark _)) (pw_or1 (pt_cmpR op_lt (pv 4) (pv 3) (nomark _))))) (pss_one (ps_ret pe_bl)) pss_nil)
      (pss_cons (ps_set (i := 5) sc_shows_broken.nd rfl (Or.inl rfl) (pe_ix ix_list (pe_lc (own := [("last", 6), ("limit", 7)]) (g := gTup _ 2 (gCons (gName 6) (gCons (gName 7) (gNil)))) rfl sc_shows_broken.nd (pi_tup (pv 1)) (blkOk_by (N := N_shows_broken) (sc := defScope s_shows_broken) (by decide +kernel)) (fun _ _ _ _ _ => pg_tup rfl (pgs_cons (pg_name (i := 6) sc_shows_broken.nd rfl (Or.inl rfl)) (pgs_cons (pg_name (i := 7) sc_shows_broken.nd rfl (Or.inl rfl)) pgs_nil))) (fun _ _ _ _ _ => (pts_one (pt_cmpR op_le (pv 3) (pv 6) (nomark _)))) (fun _ _ _ _ _ => (pv 7))) pe_int (fun _ _ => rfl)))
      (pss_one (ps_ret (pe_not (pe_hasO C_at_most (hr.mono (by decide)) rfl (pa_cons (pe_hasO C_distance (hr.mono (by decide)) rfl (pa_cons (pv 0) (pa_cons (pv 4) (pa_cons (pv 3) pa_nil)))) (pa_cons (pv 5) pa_nil)))))))))), ?_⟩
    obtain ⟨ini, tl, ql, rfl, hql, htl⟩ := wish_last ta ok.pos
    have qm : q ∈ ws := List.mem_of_find?_eq_some hq
    have qb : b ≤ q.1 := of_decide_eq_true (show decide (b ≤ q.1) = true from List.find?_some (p := fun p : Int × Int => decide (b ≤ p.1)) hq)
    have lg := last_ge ok.asc qm hql
    refine ⟨_, rfl, p, b, t, rfl, hp, b0, by omega, fun H1 s1 => ?_⟩
    refine ⟨_, rfl, ?_⟩
    refine ite2 (fun z => absurd z (by decide)) (fun _ => ?_)
    have hW1 := s1 _ _ hW
    refine ⟨_, rfl, p, _, rfl, SqT.same s1 hp, rfl, _, _, rfl, _, _, rfl, rfl, ?_⟩
    refine ⟨_, rfl, _, rfl, _, rfl, W, _, _, _, rfl, rfl, SqT.of hW1, atI_last _ _, tl, _, _, _, rfl, rfl, SqT.of (s1 _ _ htl), rfl, _, _, rfl, rfl, _, rfl, ?_⟩
    refine ite2 (fun z => absurd (of_decide_eq_true z) (by omega)) (fun _ => ?_)
    refine ⟨_, rfl, _, rfl, _, _, rfl, rfl, _, rfl, ?_⟩
    refine ite2 (fun z => absurd (of_decide_eq_true z) (by omega)) (fun _ => ?_)
    generalize ini ++ [V.ref tl] = xs at *
    refine ⟨_, rfl, W, rfl, ⟨_, SqT.of hW1⟩, fun D hD => lc_tup (xs := xs) (fun i H' => Same H1 H' ∧ H' D = some (.lst (((ws.take i).filter fun p => decide (b ≤ p.1)).map fun p => V.int p.2))) ⟨same_upd hD, upd_same⟩ (fun i H' _ z => SqT.of (z.1 _ _ hW1)) ?_ ?_⟩
    · rintro i x H2 hx ⟨s2, eD⟩
      obtain ⟨u, p2, rfl, hpi, hu⟩ := wV_get ta hx
      have et : ws.take (i + 1) = ws.take i ++ [p2] := by rw [List.take_add_one, hpi]; rfl
      have hil := (List.getElem?_eq_some_iff.mp hpi).1
      have hm := ok.most
      refine ⟨u, _, rfl, SqT.of (s2 _ _ (s1 _ _ hu)), rfl, _, _, rfl, _, _, rfl, rfl, rfl, ?_⟩
      refine ⟨_, rfl, _, rfl, _, _, rfl, rfl, _, rfl, ?_⟩
      refine ite2 (fun hc => ?_) (fun hc => ?_)
      · refine ⟨_, rfl, _, eD, small1000 (by rw [List.length_map]; have h2 := List.length_filter_le (fun p : Int × Int => decide (b ≤ p.1)) (ws.take i); rw [List.length_take] at h2; omega), fun b o z => ?_, ?_⟩
        · rw [upd_ne (ne_of_none z hD)]
          exact s2 b o z
        · rw [upd_same, et, List.filter_append, filter_yes (fun p : Int × Int => decide (b ≤ p.1)) hc, List.map_append]
          rfl
      · refine ⟨s2, ?_⟩
        rw [eD, et, List.filter_append, filter_no (fun p : Int × Int => decide (b ≤ p.1)) (by cases z : decide (b ≤ p2.1) with | true => exact absurd z hc | false => rfl), List.append_nil]
    · rintro H2 ⟨s2, eD⟩
      have el : xs.length = ws.length := by rw [ta.length, List.length_map]
      rw [el, List.take_length] at eD
      have e0 : ((ws.filter fun p => decide (b ≤ p.1)).map fun p => V.int p.2)[0]? = some (V.int q.2) := by
        rw [List.getElem?_map, ← List.head?_eq_getElem?, List.head?_filter]
        have hq' : ws.find? (fun p => decide (b ≤ p.1)) = some q := hq
        rw [hq']
        rfl
      refine ⟨D, _, _, _, rfl, rfl, SqL.of eD, at_of (j := 0) rfl e0, ?_⟩
      refine ⟨_, rfl, _, rfl, _, rfl, r, t, b, ls, rfl, (ra.same s1).same s2, hl, fun H3 s3 => ?_⟩
      exact ⟨_, rfl, distO ls t b, some q.2, rfl, _, rfl, k _ (s1.trans (s2.trans s3))⟩
end
def spNatQ (K : PySem.W.Frag) : Sp := fun vs H Q _ => ∃ (ex : List Addr) (v : V) (d : PyData), vs = [v] ∧ Dq K ex H v d ∧ Q (.bl (natD d)) H
section
variable {P : Program} {w : World} {K : PySem.W.Frag} {mg : Str → Option Value} {base : Heap}
theorem ok_natQ (D : Df K mg "is_natural" s_is_natural ["value"]) (T : Bl mg) : HasO P w K mg base 1 "is_natural" ["value"] (spNatQ K) := by
  refine D.hasO sc_is_natural (fun vs H Q E h => ?_) (fun f cdv A outer s H vs Q E hr h => ?_)
  · obtain ⟨ex, v, d, rfl, _⟩ := h
    rfl
  · obtain ⟨ex, v, d, rfl, hd, k⟩ := h
    refine ⟨_, (pss_one (ps_ret (pe_and (pe_callB call_isi (by rfl) T.isinstance (by decide +kernel) (pa_cons (pv 0) (pa_cons (pe_bltn (v := .ty "int") (by rfl) T.int (by decide +kernel) rfl) pa_nil))) (pe_and (pe_not (pe_callB call_isi (by rfl) T.isinstance (by decide +kernel) (pa_cons (pv 0) (pa_cons (pe_bltn (v := .ty "bool") (by rfl) T.bool (by decide +kernel) rfl) pa_nil)))) (pe_one (pe_cmpR op_ge (pv 0) pe_int (nomark _))))))), ?_⟩
    cases hd with
    | int i =>
      refine ⟨_, rfl, _, _, _, _, true, rfl, .ty _, .base (.int i), kit_ty (by decide +kernel), true, rfl, ?_⟩
      refine iteT ?_
      refine ⟨_, rfl, _, _, _, _, false, rfl, .ty _, .base (.int i), kit_ty (by decide +kernel), false, rfl, true, rfl, ?_⟩
      refine iteT ?_
      exact ⟨_, rfl, _, _, rfl, rfl, k⟩
    | bl b =>
      refine ⟨_, rfl, _, _, _, _, true, rfl, .ty _, .base (.bl b), kit_ty (by decide +kernel), true, rfl, ?_⟩
      refine iteT ?_
      refine ⟨_, rfl, _, _, _, _, true, rfl, .ty _, .base (.bl b), kit_ty (by decide +kernel), true, rfl, false, rfl, ?_⟩
      exact iteF k
    | non => exact ⟨_, rfl, _, _, _, _, false, rfl, .ty _, .base .non, kit_ty (by decide +kernel), false, rfl, iteF k⟩
    | str x => exact ⟨_, rfl, _, _, _, _, false, rfl, .ty _, .base (.str x), kit_ty (by decide +kernel), false, rfl, iteF k⟩
    | lst e n a => exact ⟨_, rfl, _, _, _, _, false, rfl, .ty _, .base (.lst e), kit_ty (by decide +kernel), false, rfl, iteF k⟩
    | tup e a => exact ⟨_, rfl, _, _, _, _, false, rfl, .ty _, tyx_seqt e, kit_ty (by decide +kernel), false, rfl, iteF k⟩
    | dct e n a => exact ⟨_, rfl, _, _, _, _, false, rfl, .ty _, .base (.dK e), kit_ty (by decide +kernel), false, rfl, iteF k⟩
end
theorem to_st {t : TS} {D : Ends} {σ σ' : L2.St} {H : Hp} (e : σ = σ') (h : t D σ' H) : t D σ H := by
  subst e
  exact h
theorem gN_st {i : Nat} {x : V} {σ σ' : L2.St} {H : Hp} {k : L2.St → Hp → Prop} (e : σ.set i (some x) = σ') (h : k σ' H) : gName i x σ H k := by
  subst e
  exact h
/-- a step as data: two numbers from 0 -/
def pairD : PyData → Bool
  | .tuple [x, y] => natD x && natD y
  | _ => false
theorem pairD_some {d : PyData} (h : pairD d = true) : ∃ a b : Int, d = .tuple [.int a, .int b] ∧ 0 ≤ a ∧ 0 ≤ b := by
  cases d with
  | tuple ds =>
    match ds, h with
    | [x, y], h =>
      have h2 : (natD x && natD y) = true := h
      rw [Bool.and_eq_true] at h2
      cases x with
      | int a =>
        cases y with
        | int b => exact ⟨a, b, rfl, of_decide_eq_true h2.1, of_decide_eq_true h2.2⟩
        | none => cases h2.2
        | bool _ => cases h2.2
        | str _ => cases h2.2
        | list _ => cases h2.2
        | tuple _ => cases h2.2
        | dict _ => cases h2.2
      | none => cases h2.1
      | bool _ => cases h2.1
      | str _ => cases h2.1
      | list _ => cases h2.1
      | tuple _ => cases h2.1
      | dict _ => cases h2.1
  | none => cases h
  | bool _ => cases h
  | int _ => cases h
  | str _ => cases h
  | list _ => cases h
  | dict _ => cases h
theorem two_items {K : PySem.W.Frag} {ex : List Addr} {H : Hp} {xs : List V} {ds : List PyData} (h : DqAll K ex H xs ds) (hl : xs.length = 2) : ∃ x y d1 d2, xs = [x, y] ∧ ds = [d1, d2] ∧ Dq K ex H x d1 ∧ Dq K ex H y d2 := by
  match xs, ds, h, hl with
  | [x, y], [d1, d2], .cons h1 (.cons h2 .nil), _ => exact ⟨x, y, d1, d2, rfl, rfl, h1, h2⟩
theorem pairD_len {ds : List PyData} (h : ds.length ≠ 2) : pairD (.tuple ds) = false := by
  match ds, h with
  | [], _ => rfl
  | [_], _ => rfl
  | [_, _], h => exact absurd rfl h
  | _ :: _ :: _ :: _, _ => rfl
def spPairQ (K : PySem.W.Frag) : Sp := fun vs H Q _ => ∃ (ex : List Addr) (v : V) (d : PyData), vs = [v] ∧ Dq K ex H v d ∧ ∀ H', Same H H' → Q (.bl (pairD d)) H'
section
variable {P : Program} {w : World} {K : PySem.W.Frag} {mg : Str → Option Value} {base : Heap}
theorem ok_pairQ (D : Df K mg "is_pair" s_is_pair ["value"]) (T : Bl mg) (C_is_natural : HasO P w K mg base 1 "is_natural" ["value"] (spNatQ K)) : HasO P w K mg base 2 "is_pair" ["value"] (spPairQ K) := by
  refine D.hasO sc_is_pair (fun vs H Q E h => ?_) (fun f cdv A outer s H vs Q E hr h => ?_)
  · obtain ⟨ex, v, d, rfl, _⟩ := h
    rfl
  · obtain ⟨ex, v, d, rfl, hd, k⟩ := h
    refine ⟨_, (pss_one (ps_ret (pe_and (pe_callB call_isi (by rfl) T.isinstance (by decide +kernel) (pa_cons (pv 0) (pa_cons (pe_bltn (v := .ty "tuple") (by rfl) T.tuple (by decide +kernel) rfl) pa_nil))) (pe_and (pe_cmpR op_eq (pe_callB call_len_seq (by rfl) T.len PySem.boot_len (pa_cons (pv 0) pa_nil)) pe_int (nomark _)) (pe_one (pe_callB (cr_all rfl) (by rfl) T.all (by decide +kernel) (pa_cons (pe_lc (own := [("part", 1)]) (g := gName 1) (tt := tYes) rfl sc_is_pair.nd (pi_tup (pv 0)) (blkOk_by (N := N_is_pair) (sc := defScope s_is_pair) (by decide +kernel)) (fun _ _ _ _ _ => pg_name (i := 1) sc_is_pair.nd rfl (Or.inl rfl)) (fun _ _ _ _ _ => pts_nil) (fun _ _ _ _ _ => (pe_hasO C_is_natural (hr.mono (by decide)) rfl (pa_cons (pv 1) pa_nil)))) pa_nil))))))), ?_⟩
    cases hd with
    | @tup a xs ds hT hall =>
      have hlen := hall.length
      refine ⟨_, rfl, _, _, _, _, true, rfl, .ty _, tyx_seqt hT, kit_ty (by decide +kernel), true, rfl, ?_⟩
      refine iteT ?_
      refine ⟨_, rfl, a, _, rfl, .inr hT, rfl, _, rfl, ?_⟩
      by_cases c : xs.length = 2
      · refine ite2 (fun _ => ?_) (fun z => absurd (decide_eq_true (by rw [c]; rfl)) z)
        obtain ⟨x, y, d1, d2, rfl, rfl, h1, h2⟩ := two_items hall c
        refine ⟨_, rfl, a, rfl, ⟨_, hT⟩, fun D2 hD2 => lc_tup (xs := [x, y]) (fun i H' => Same H H' ∧ H' D2 = some (.lst ((([d1, d2].take i).map natD).map V.bl))) ⟨same_upd hD2, upd_same⟩ (fun i H' _ z => SqT.same z.1 hT) ?_ ?_⟩
        · rintro i v H2 hv ⟨s2, e2⟩
          have hi : i = 0 ∨ i = 1 := by
            have := (List.getElem?_eq_some_iff.mp hv).1
            have h2 : i < 2 := this
            omega
          rcases hi with rfl | rfl
          · cases hv
            refine ⟨rfl, _, rfl, ex, _, d1, rfl, h1.same s2, ?_⟩
            refine ⟨_, e2, by show 0 < sizeLine; decide, fun b o z => ?_, by rw [upd_same]; rfl⟩
            rw [upd_ne (ne_of_none z hD2)]
            exact s2 b o z
          · cases hv
            refine ⟨rfl, _, rfl, ex, _, d2, rfl, h2.same s2, ?_⟩
            refine ⟨_, e2, by show 1 < sizeLine; decide, fun b o z => ?_, by rw [upd_same]; rfl⟩
            rw [upd_ne (ne_of_none z hD2)]
            exact s2 b o z
        · rintro H2 ⟨s2, e2⟩
          refine ⟨D2, [natD d1, natD d2], rfl, SqL.of e2, ?_⟩
          have q := k H2 s2
          have e : [natD d1, natD d2].all _root_.id = pairD (.tuple [d1, d2]) := by
            show (natD d1 && (natD d2 && true)) = (natD d1 && natD d2)
            rw [Bool.and_true]
          rw [e]
          exact q
      · refine ite2 (fun z => absurd (of_decide_eq_true z) (fun w => by injection w with w; omega)) (fun _ => ?_)
        have q := k H (Same.refl _)
        have e : pairD (.tuple ds) = false := pairD_len (by omega)
        rw [e] at q
        exact q
    | int i => exact ⟨_, rfl, _, _, _, _, false, rfl, .ty _, .base (.int i), kit_ty (by decide +kernel), false, rfl, iteF (k H (Same.refl _))⟩
    | bl b => exact ⟨_, rfl, _, _, _, _, false, rfl, .ty _, .base (.bl b), kit_ty (by decide +kernel), false, rfl, iteF (k H (Same.refl _))⟩
    | non => exact ⟨_, rfl, _, _, _, _, false, rfl, .ty _, .base .non, kit_ty (by decide +kernel), false, rfl, iteF (k H (Same.refl _))⟩
    | str x => exact ⟨_, rfl, _, _, _, _, false, rfl, .ty _, .base (.str x), kit_ty (by decide +kernel), false, rfl, iteF (k H (Same.refl _))⟩
    | lst e n a => exact ⟨_, rfl, _, _, _, _, false, rfl, .ty _, .base (.lst e), kit_ty (by decide +kernel), false, rfl, iteF (k H (Same.refl _))⟩
    | dct e n a => exact ⟨_, rfl, _, _, _, _, false, rfl, .ty _, .base (.dK e), kit_ty (by decide +kernel), false, rfl, iteF (k H (Same.refl _))⟩
end
/-! SPLIT -/
abbrev s_law_odd : Stmt := (top 43)
abbrev N_law_odd : List Str := ["_law_pot_here", "_law_value", "_law_turn"]
theorem sc_law_odd : FnScope N_law_odd ["_law_pot_here"] (defScope s_law_odd) :=
  ⟨rfl, rfl, rfl, by decide +kernel, rfl, by decide +kernel, by decide +kernel⟩
theorem PotAt.ne_tup {a t : Addr} {n : Nat} {H : Hp} {xs : List V} (p : PotAt H a n) (h : H t = some (.tup xs)) : t ≠ a := by
  obtain ⟨g, s, c, e, _⟩ := p
  exact ne_of h e (by intro z; cases z)
def oddB : Nat → Nat
  | 0 => 700
  | 1 => 1500
  | 2 => 3100
  | t + 3 => 6300 + 20 * t
theorem oddB_two {t : Nat} (h : t < 3) : 2 * oddB t + 7 ≤ oddB (t + 1) := by
  have : t = 0 ∨ t = 1 ∨ t = 2 := by omega
  rcases this with rfl | rfl | rfl <;> decide
theorem oddB_one (t : Nat) : oddB t + 10 ≤ oddB (t + 1) := by
  match t with
  | 0 => decide
  | 1 => decide
  | 2 => decide
  | t + 3 =>
    show 6300 + 20 * t + 10 ≤ 6300 + 20 * (t + 1)
    omega
theorem PotAt.noTup {a : Addr} {n : Nat} {H : Hp} (p : PotAt H a n) : NoTup [a] H := fun e he o ho => by
  obtain ⟨g, s, c, e1, _⟩ := p
  rw [List.mem_singleton.mp he, e1] at ho
  cases ho
  exact ⟨fun _ z => (by cases z), fun _ _ z => (by cases z)⟩
theorem But.buts {a : Addr} {H H' : Hp} (b : But a H H') : Buts [a] H H' := fun c o e n => b c o e fun z => n (by rw [z]; exact List.mem_singleton.mpr rfl)
def spOdd (K : PySem.W.Frag) : Sp := fun vs H Q _ => ∃ (a : Addr) (n : Nat) (ex : List Addr), vs = [.ref a] ∧ PotAt H a n ∧ n < 500000 ∧ a ∈ ex ∧ (∀ e ∈ ex, H e ≠ none) ∧ ∀ (v : V) (d : PyData) (H' : Hp), AnyV K ex H' v d → PotAt H' a (n + 20) → But a H H' → Q v H'
section
variable {P : Program} {w : World} {K : PySem.W.Frag} {mg : Str → Option Value} {base : Heap} {C : Addr}
theorem ok_odd (D : Df K mg "_law_odd" s_law_odd ["_law_pot_here"]) (T : Bl mg) (C_law_take : Has P w K mg base 1 "_law_take" ["_law_pot_here", "_law_many"] spTake) (C_law_of : Has P w K mg base 2 "_law_of" ["_law_pot_here", "_law_some"] (spPick K)) : Has P w K mg base 3 "_law_odd" ["_law_pot_here"] (spOdd K) := by
  refine D.has sc_law_odd (fun vs H Q E h => ?_) (fun f cdv A outer s H vs Q E gd hr h => ?_)
  · obtain ⟨a, n, ex, rfl, _⟩ := h
    rfl
  · obtain ⟨a, n, ex, rfl, hp, hn, hax, hex, k⟩ := h
    have out : ∀ {Hk : Hp} {m : Nat} {t : Addr}, PotAt Hk a m → But a H Hk → Hk t = none → t ∉ ex := fun {Hk} {m} {t} p b z hm => by
      by_cases c : t = a
      · obtain ⟨g, s, cc, e, _⟩ := p
        rw [c, e] at z
        cases z
      · cases e : H t with
        | none => exact hex t hm e
        | some o => rw [b t o e c] at z; cases z
    have sub1 : ∀ e ∈ [a], e ∈ sysModules :: ex := fun e he => by rw [List.mem_singleton.mp he]; exact List.mem_cons_of_mem _ hax
    refine ⟨_, (pss_cons (ps_set (i := 1) sc_law_odd.nd rfl (Or.inl rfl) (pe_has C_law_of gd (hr.mono (by decide)) rfl (pa_cons (pv 0) (pa_cons (pe_lst (pa_cons pe_non (pa_cons pe_bl (pa_cons pe_bl (pa_cons pe_int (pa_cons pe_int (pa_cons (pe_un un_neg pe_int) (pa_cons pe_int (pa_cons (pe_op op_pow pe_int pe_int) (pa_cons pe_str (pa_cons pe_str (pa_cons pe_str (pa_cons pe_str (pa_cons (pe_tup pa_nil) (pa_cons (pe_lstX pa_nil) (pa_cons pe_dnewX pa_nil)))))))))))))))) pa_nil))))
      (pss_cons (ps_for PassesOwn.never rfl (pi_range1 rfl T.range (pa_cons (pe_has C_law_of gd (hr.mono (by decide)) rfl (pa_cons (pv 0) (pa_cons (pe_lst (pa_cons pe_int (pa_cons pe_int (pa_cons pe_int (pa_cons pe_int (pa_cons pe_int pa_nil)))))) pa_nil))) pa_nil)) (pg_name (i := 2) sc_law_odd.nd rfl (Or.inl rfl)) (pss_one (ps_set (i := 1) sc_law_odd.nd rfl (Or.inl rfl) (pe_ix ix_list (pe_lst (pa_cons (pe_tup (pa_cons (pv 1) pa_nil)) (pa_cons (pe_lstX (pa_cons (pv 1) pa_nil)) (pa_cons (pe_dispX (pps_cons pe_str (pv 1) pps_nil) rfl rfl (by decide) (by decide)) (pa_cons (pe_slice sl_tupH (pe_tup (pa_cons (pv 1) (pa_cons (pv 1) pa_nil))) po_none (po_some (pe_op op_add pe_int (pe_callTy call_int1 (by rfl) T.int (by decide +kernel) (pa_cons (pe_cmpR op_lt (pv 2) pe_int (nomark _)) pa_nil))))) pa_nil))))) (pe_has C_law_take gd (hr.mono (by decide)) rfl (pa_cons (pv 0) (pa_cons pe_int pa_nil))) (fun _ _ => rfl)))))
      (pss_one (ps_ret (pv 1))))), ?_⟩
    refine ⟨_, rfl, _, rfl, _, _, rfl, rfl, ⟨by decide, by decide, by decide⟩, Nat.zero_le _, fun e0 he0 => ⟨Nat.zero_le _, fun e1 he1 hs1 => fun e2 he2 hs2 => ⟨by show 15 ≤ sizeLine; decide, fun M hM => ?_⟩⟩⟩
    have s0 := same_upd (o := .tup []) he0
    have s1 := same_upd (o := .lst []) he1
    have s2 := same_upd (o := .dK []) he2
    have s3 := same_upd (o := .lst [V.non, .bl true, .bl false, .int 0, .int 1, .int (-1), .int 16, .int (10 ^ (18 : Int).toNat), .str "", .str "0", .str "0 2 8", .str "a", .ref e0, .ref e1, .ref e2]) hM
    have f0 := (s1.trans (s2.trans s3)) _ _ (upd_same (H := H) (a := e0) (o := .tup []))
    have f1 := (s2.trans s3) _ _ (upd_same (H := upd H e0 (.tup [])) (a := e1) (o := .lst []))
    have f2 := s3 _ _ (upd_same (H := upd (upd H e0 (.tup [])) e1 (.lst [])) (a := e2) (o := .dK []))
    have p3 := (((hp.same s0).same s1).same s2).same s3
    have n1 : e1 ≠ a := ((hp.same s0).ne he1).symm
    have n2 : e2 ≠ a := (((hp.same s0).same s1).ne he2).symm
    have nM : M ≠ a := ((((hp.same s0).same s1).same s2).ne hM).symm
    have b3 : But a H _ := But.of (s0.trans (s1.trans (s2.trans s3)))
    refine ⟨a, M, n, _, rfl, p3, by omega, SqL.of upd_same, nM, by show 0 < 15; decide, by show 15 ≤ 1000; decide, fun v H4 hv p4 b4 => ?_⟩
    have g0 := b4 _ _ f0 (p3.ne_tup f0)
    have g1 := b4 _ _ f1 n1
    have g2 := b4 _ _ f2 n2
    have bad1 : e1 ∉ (sysModules :: ex) := fun z => by
      rcases List.mem_cons.mp z with z | z
      · exact hs1 z
      · exact out ((hp.same s0)) (But.of s0) he1 z
    have bad2 : e2 ∉ (sysModules :: ex) := fun z => by
      rcases List.mem_cons.mp z with z | z
      · exact hs2 z
      · exact out ((hp.same s0).same s1) (But.of (s0.trans s1)) he2 z
    have b04 := b3.trans b4
    obtain ⟨d, hd⟩ : ∃ d, Dq K (sysModules :: ex) H4 v d ∧ ShQ d (oddB 0) 1 := by
      rcases List.mem_cons.mp hv with rfl | hv
      · exact ⟨_, .non, Sh.non.q.mono (by decide) (by decide)⟩
      rcases List.mem_cons.mp hv with rfl | hv
      · exact ⟨_, .bl _, (Sh.bl _).q.mono (by decide) (by decide)⟩
      rcases List.mem_cons.mp hv with rfl | hv
      · exact ⟨_, .bl _, (Sh.bl _).q.mono (by decide) (by decide)⟩
      rcases List.mem_cons.mp hv with rfl | hv
      · exact ⟨_, .int _, (Sh.int (by decide)).q.mono (by decide) (by decide)⟩
      rcases List.mem_cons.mp hv with rfl | hv
      · exact ⟨_, .int _, (Sh.int (by decide)).q.mono (by decide) (by decide)⟩
      rcases List.mem_cons.mp hv with rfl | hv
      · exact ⟨_, .int _, (Sh.int (by decide)).q.mono (by decide) (by decide)⟩
      rcases List.mem_cons.mp hv with rfl | hv
      · exact ⟨_, .int _, (Sh.int (by decide)).q.mono (by decide) (by decide)⟩
      rcases List.mem_cons.mp hv with rfl | hv
      · exact ⟨_, .int _, (Sh.int (by decide)).q.mono (by decide) (by decide)⟩
      rcases List.mem_cons.mp hv with rfl | hv
      · exact ⟨_, .str _, rfl, by simp [PyData.depth], by decide +kernel⟩
      rcases List.mem_cons.mp hv with rfl | hv
      · exact ⟨_, .str _, rfl, by simp [PyData.depth], by decide +kernel⟩
      rcases List.mem_cons.mp hv with rfl | hv
      · exact ⟨_, .str _, rfl, by simp [PyData.depth], by decide +kernel⟩
      rcases List.mem_cons.mp hv with rfl | hv
      · exact ⟨_, .str _, rfl, by simp [PyData.depth], by decide +kernel⟩
      rcases List.mem_cons.mp hv with rfl | hv
      · exact ⟨_, .tup (SqT.of g0) .nil, (ShQ.tup (n := 0) (k := 0) (ds := []) (fun _ z => by cases z)).mono (by decide) (by decide)⟩
      rcases List.mem_cons.mp hv with rfl | hv
      · exact ⟨_, .lst g1 bad1 .nil, (ShQ.list (n := 0) (k := 0) (ds := []) (fun _ z => by cases z)).mono (by decide) (by decide)⟩
      · rw [List.mem_singleton.mp hv]
        exact ⟨_, .dct g2 bad2 .nil, ShQ.dict0.mono (by decide) (by decide)⟩
    refine gN_st (σ' := [some (.ref a), some v, none]) rfl ?_
    refine ⟨_, rfl, by show 5 ≤ sizeLine; decide, fun M2 hM2 => ?_⟩
    refine ⟨a, M2, _, _, rfl, p4.same (same_upd hM2), by omega, SqL.of upd_same, (p4.ne hM2).symm, by show 0 < 5; decide, by show 5 ≤ 1000; decide, fun v2 H5 hv2 p5 b5 => ?_⟩
    obtain ⟨m, rfl, hm⟩ : ∃ m : Nat, v2 = .int (m : Nat) ∧ m ≤ 12 := by
      rcases List.mem_cons.mp hv2 with rfl | hv2
      · exact ⟨0, rfl, by decide⟩
      rcases List.mem_cons.mp hv2 with rfl | hv2
      · exact ⟨0, rfl, by decide⟩
      rcases List.mem_cons.mp hv2 with rfl | hv2
      · exact ⟨1, rfl, by decide⟩
      rcases List.mem_cons.mp hv2 with rfl | hv2
      · exact ⟨2, rfl, by decide⟩
      rcases List.mem_cons.mp hv2 with rfl | hv2
      · exact ⟨12, rfl, by decide⟩
      · exact nomatch hv2
    have b45 : But a H4 H5 := (But.of (same_upd hM2)).trans b5
    have hd5 : Dq K (sysModules :: ex) H5 v d := Dq.buts b45.buts p4.noTup sub1 d v hd.1
    refine ⟨((m : Nat) : Int), rfl, by omega, by omega, for_range (n := m) (fun i σ H' => ∃ (v : V) (w2 : Option V) (d : PyData), σ = [some (.ref a), some v, w2] ∧ Dq K (sysModules :: ex) H' v d ∧ ShQ d (oddB i) (i + 1) ∧ PotAt H' a (n + 2 + i) ∧ But a H H') ⟨v, none, d, rfl, hd5, hd.2, p5.mono (by omega), b04.trans b45⟩ ?_ ?_⟩
    · rintro i σ H6 hi ⟨v, w2, d, rfl, hd, sh, p6, b6⟩
      refine gN_st (σ' := [some (.ref a), some v, some (.int (0 + (i : Nat)))]) rfl ?_
      refine ⟨_, rfl, by show 1 ≤ sizeLine; decide, fun t1 ht1 => ⟨_, rfl, by show 1 ≤ sizeLine; decide, fun t2 ht2 hs2 => fun t3 ht3 hs3 => ?_⟩⟩
      refine ⟨_, rfl, upd_same, [(.inr "a", v)], rfl, by show 1 ≤ 15; decide, ?_⟩
      have u1 := same_upd (o := .tup [v]) ht1
      have u2 := same_upd (o := .lst [v]) ht2
      have u3 := same_upd (o := .dK []) ht3
      have nt3 : ∀ b o, (upd (upd H6 t1 (.tup [v])) t2 (.lst [v])) b = some o → b ≠ t3 := fun b o e => ne_of_none e ht3
      have w1 : Same H6 (upd (upd (upd (upd H6 t1 (.tup [v])) t2 (.lst [v])) t3 (.dK [])) t3 (.dK (mergeK [] [(.inr "a", v)]))) := fun b o e => by
        have e2 := u2 _ _ (u1 _ _ e)
        rw [upd_ne (nt3 _ _ e2)]
        exact u3 _ _ e2
      have x1 : (upd (upd (upd (upd H6 t1 (.tup [v])) t2 (.lst [v])) t3 (.dK [])) t3 (.dK (mergeK [] [(.inr "a", v)]))) t1 = some (.tup [v]) := by
        have e2 := u2 _ _ (upd_same (H := H6) (a := t1) (o := .tup [v]))
        rw [upd_ne (nt3 _ _ e2)]
        exact u3 _ _ e2
      have x2 : (upd (upd (upd (upd H6 t1 (.tup [v])) t2 (.lst [v])) t3 (.dK [])) t3 (.dK (mergeK [] [(.inr "a", v)]))) t2 = some (.lst [v]) := by
        have e2 := upd_same (H := upd H6 t1 (.tup [v])) (a := t2) (o := .lst [v])
        rw [upd_ne (nt3 _ _ e2)]
        exact u3 _ _ e2
      have x3 : (upd (upd (upd (upd H6 t1 (.tup [v])) t2 (.lst [v])) t3 (.dK [])) t3 (.dK (mergeK [] [(.inr "a", v)]))) t3 = some (.dK [(.inr "a", v)]) := upd_same
      have n2 : t2 ≠ a := ((p6.same u1).ne ht2).symm
      have o2 : t2 ∉ ex := out (p6.same u1) (b6.trans (But.of u1)) ht2
      have o3 : t3 ∉ ex := out ((p6.same u1).same u2) (b6.trans (But.of (u1.trans u2))) ht3
      have n3 : t3 ≠ a := (((p6.same u1).same u2).ne ht3).symm
      generalize upd (upd (upd (upd H6 t1 (.tup [v])) t2 (.lst [v])) t3 (.dK [])) t3 (.dK (mergeK [] [(.inr "a", v)])) = H7 at *
      refine ⟨_, rfl, _, rfl, by show 2 ≤ sizeLine; decide, fun t4 ht4 => ?_⟩
      have u4 := same_upd (o := .tup [v, v]) ht4
      refine ⟨_, rfl, _, _, rfl, rfl, .inr ⟨_, rfl, _, _, rfl, rfl, ?_⟩⟩
      refine ⟨_, rfl, t4, _, rfl, upd_same, fun r8 H8 s8 e8 => ⟨by show 4 ≤ sizeLine; decide, fun M4 hM4 => ?_⟩⟩
      have e9 : H8 r8 = some (.tup (if i < 3 then [v, v] else [v])) := by
        rw [e8]
        by_cases c : i < 3
        · rw [if_pos c, if_pos (decide_eq_true (show 0 + ((i : Nat) : Int) < 3 by omega))]
          rfl
        · rw [if_neg c, if_neg (fun z => c (by have := of_decide_eq_true z; omega))]
          rfl
      have uM := same_upd (o := .lst [V.ref t1, .ref t2, .ref t3, .ref r8]) hM4
      have s68 := w1.trans (u4.trans s8)
      have p8 := p6.same s68
      have nM4 : M4 ≠ a := (p8.ne hM4).symm
      refine ⟨_, rfl, a, _, 4, rfl, p8.same uM, by omega, by decide, by decide, fun q H9 q0 q1 p9 b9 => ?_⟩
      obtain ⟨qn, rfl⟩ := Int.eq_ofNat_of_zero_le q0
      have b69 : But a H6 H9 := (But.of (s68.trans uM)).trans b9
      have hd9 : Dq K (sysModules :: ex) H9 v d := Dq.buts b69.buts p6.noTup sub1 d v hd
      have eM9 := b9 _ _ (upd_same (H := H8) (a := M4) (o := .lst [V.ref t1, .ref t2, .ref t3, .ref r8])) nM4
      have y1 := b9 _ _ (uM _ _ (s8 _ _ (u4 _ _ x1))) (p6.same s68 |>.ne_tup (s8 _ _ (u4 _ _ x1)))
      have y2 := b9 _ _ (uM _ _ (s8 _ _ (u4 _ _ x2))) n2
      have y3 := b9 _ _ (uM _ _ (s8 _ _ (u4 _ _ x3))) n3
      have y4 := b9 _ _ (uM _ _ e9) (p8.ne_tup e9)
      have ob := oddB_one i
      have fin : ∀ (x : V) (e : PyData), Dq K (sysModules :: ex) H9 x e → ShQ e (oddB (i + 1)) (i + 1 + 1) → ∃ v w2 d, [some (V.ref a), some x, some (.int (0 + (i : Nat)))] = [some (.ref a), some v, w2] ∧ Dq K (sysModules :: ex) H9 v d ∧ ShQ d (oddB (i + 1)) (i + 1 + 1) ∧ PotAt H9 a (n + 2 + (i + 1)) ∧ But a H H9 := fun x e h1 h2 => ⟨x, _, e, rfl, h1, h2, p9.mono (by omega), b6.trans b69⟩
      have q4 : qn = 0 ∨ qn = 1 ∨ qn = 2 ∨ qn = 3 := by omega
      rcases q4 with rfl | rfl | rfl | rfl
      · refine ⟨M4, _, _, _, rfl, rfl, SqL.of eM9, at_of (j := 0) rfl rfl, fin _ (.tuple [d]) (.tup (SqT.of y1) (.cons hd9 .nil)) ?_⟩
        exact (ShQ.tup (n := oddB i) (k := i + 1) fun x hx => by rw [List.mem_singleton.mp hx]; exact sh).mono (by show 1 * oddB i + 2 * 1 + 3 ≤ _; omega) (Nat.le_refl _)
      · refine ⟨M4, _, _, _, rfl, rfl, SqL.of eM9, at_of (j := 1) rfl rfl, fin _ (.list [d]) (.lst y2 ?_ (.cons hd9 .nil)) ?_⟩
        · intro z
          rcases List.mem_cons.mp z with z | z
          · exact hs2 z
          · exact o2 z
        · exact (ShQ.list (n := oddB i) (k := i + 1) fun x hx => by rw [List.mem_singleton.mp hx]; exact sh).mono (by show 1 * oddB i + 2 * 1 + 3 ≤ _; omega) (Nat.le_refl _)
      · refine ⟨M4, _, _, _, rfl, rfl, SqL.of eM9, at_of (j := 2) rfl rfl, fin _ (.dict [(.str "a", d)]) (.dct y3 ?_ (.cons hd9 .nil)) ?_⟩
        · intro z
          rcases List.mem_cons.mp z with z | z
          · exact hs3 z
          · exact o3 z
        · exact (ShQ.dictA sh).mono ob (Nat.le_refl _)
      · by_cases c : i < 3
        · rw [if_pos c] at y4
          have ob2 := oddB_two c
          refine ⟨M4, _, _, _, rfl, rfl, SqL.of eM9, at_of (j := 3) rfl rfl, fin _ (.tuple [d, d]) (.tup (SqT.of y4) (.cons hd9 (.cons hd9 .nil))) ?_⟩
          exact (ShQ.tup (n := oddB i) (k := i + 1) fun x hx => by
            rcases List.mem_cons.mp hx with rfl | hx
            · exact sh
            · rw [List.mem_singleton.mp hx]; exact sh).mono (by show 2 * oddB i + 2 * 2 + 3 ≤ _; omega) (Nat.le_refl _)
        · rw [if_neg c] at y4
          refine ⟨M4, _, _, _, rfl, rfl, SqL.of eM9, at_of (j := 3) rfl rfl, fin _ (.tuple [d]) (.tup (SqT.of y4) (.cons hd9 .nil)) ?_⟩
          exact (ShQ.tup (n := oddB i) (k := i + 1) fun x hx => by rw [List.mem_singleton.mp hx]; exact sh).mono (by show 1 * oddB i + 2 * 1 + 3 ≤ _; omega) (Nat.le_refl _)
    · rintro σ H6 ⟨v, w2, d, rfl, hd, sh, p6, b6⟩
      have hB : oddB m ≤ 200000 := by
        match m, hm with
        | 0, _ => decide
        | 1, _ => decide
        | 2, _ => decide
        | m + 3, h =>
          show 6300 + 20 * m ≤ 200000
          omega
      exact ⟨_, rfl, k v d H6 ⟨hd, sh.mono hB (by omega)⟩ (p6.mono (by omega)) b6⟩
end
abbrev s_law_bent : Stmt := (top 44)
abbrev N_law_bent : List Str := ["_law_pot_here", "_law_value", "_law_at", "_law_way"]
theorem sc_law_bent : FnScope N_law_bent ["_law_pot_here", "_law_value"] (defScope s_law_bent) :=
  ⟨rfl, rfl, rfl, by decide +kernel, rfl, by decide +kernel, by decide +kernel⟩
def spBent (K : PySem.W.Frag) (N : Nat) : Sp := fun vs H Q _ => ∃ (a : Addr) (m f n k : Nat) (b : Int) (v : V) (d : PyData) (ex : List Addr), vs = [.ref a, v] ∧ f ≤ N ∧ PotAt H a m ∧ m + 40 * f < 490000 ∧ a ∈ ex ∧ (∀ e ∈ ex, H e ≠ none) ∧ Dq K (sysModules :: ex) H v d ∧ ShQ d n k ∧ n ≤ 100000 ∧ k ≤ 35 ∧ d.canLay0 = true ∧ Td b f d ∧ 0 ≤ b ∧ b ≤ 10 ^ 30 ∧
  ∀ (v' : V) (d' : PyData) (H' : Hp), Dq K (sysModules :: ex) H' v' d' → ShQ d' (3 * n + 200010) (k + 20) → (Ti f d → d'.canLay0 = true ∧ Td (b + 3) (f + 1) d' ∧ ShQ d' (3 * n + 8100) (k + 1)) → PotAt H' a (m + 30 * f) → But a H H' → Q v' H'
section
variable {P : Program} {w : World} {K : PySem.W.Frag} {mg : Str → Option Value} {base : Heap}
theorem ok_bent0 (D : Df K mg "_law_bent" s_law_bent ["_law_pot_here", "_law_value"]) : Has P w K mg base 4 "_law_bent" ["_law_pot_here", "_law_value"] (spBent K 0) := by
  refine D.has sc_law_bent (fun vs H Q E h => ?_) (fun f cdv A outer s H vs Q E gd hr h => ?_)
  · obtain ⟨a, m, f, n, k, b, v, d, ex, rfl, hf, _, _, _, _, _, _, _, _, _, hT, _⟩ := h
    obtain rfl : f = 0 := by omega
    exact hT.elim
  · obtain ⟨a, m, f, n, k, b, v, d, ex, rfl, hf, _, _, _, _, _, _, _, _, _, hT, _⟩ := h
    obtain rfl : f = 0 := by omega
    exact hT.elim
theorem ok_bentS {N lev : Nat} (hlev : 4 ≤ lev) (hlev2 : lev ≤ 8) (D : Df K mg "_law_bent" s_law_bent ["_law_pot_here", "_law_value"]) (T : Bl mg) (C_law_take : Has P w K mg base 1 "_law_take" ["_law_pot_here", "_law_many"] spTake) (C_law_of : Has P w K mg base 2 "_law_of" ["_law_pot_here", "_law_some"] (spPick K)) (C_law_odd : Has P w K mg base 3 "_law_odd" ["_law_pot_here"] (spOdd K)) (C_law_bent : Has P w K mg base lev "_law_bent" ["_law_pot_here", "_law_value"] (spBent K N)) : Has P w K mg base (lev + 1) "_law_bent" ["_law_pot_here", "_law_value"] (spBent K (N + 1)) := by
  refine D.has sc_law_bent (fun vs H Q E h => ?_) (fun f cdv A outer s H vs Q E gd hr h => ?_)
  · obtain ⟨a, m, f, n, k, b, v, d, ex, rfl, _⟩ := h
    rfl
  · obtain ⟨a, m, f, n, k, b, v, d, ex, rfl, hf, hp, hm, hax, hex, hd, hsh, hn, hk, hlay, hT, b0, b1, kk⟩ := h
    refine ⟨_, (pss_cons (ps_if (PW.pt (pw_and (pt_val (pe_callB call_isi (by rfl) T.isinstance (by decide +kernel) (pa_cons (pv 1) (pa_cons (pe_bltn (v := .ty "tuple") (by rfl) T.tuple (by decide +kernel) rfl) pa_nil)))) (pw_and (pt_cmpR (op_neQ hr.units) (pv 1) (pe_tup pa_nil) (nomark _)) (pw_and1 (pt_cmpR op_gt (pe_has C_law_take gd (hr.mono (by omega)) rfl (pa_cons (pv 0) (pa_cons pe_int pa_nil))) pe_int (nomark _)))))) (pss_cons (ps_par (i := 2) (j := 3) rfl sc_law_bent.nd rfl rfl (by decide) rfl rfl (pa_cons (pe_has C_law_take gd (hr.mono (by omega)) rfl (pa_cons (pv 0) (pa_cons (pe_callB call_len_seq (by rfl) T.len PySem.boot_len (pa_cons (pv 1) pa_nil)) pa_nil))) (pa_cons (pe_has C_law_take gd (hr.mono (by omega)) rfl (pa_cons (pv 0) (pa_cons pe_int pa_nil))) pa_nil)) (by rfl))
      (pss_cons (ps_if (pt_cmpR op_lt (pv 3) pe_int (nomark _)) (pss_one (ps_ret (pe_op op_catQ (pe_op op_catQ (pe_slice sl_tupQ (pv 1) po_none (po_some (pv 2))) (pe_tup (pa_cons (pe_has C_law_bent gd (hr.mono (by omega)) rfl (pa_cons (pv 0) (pa_cons (pe_ix ix_tup (pv 1) (pv 2) (fun _ _ => rfl)) pa_nil))) pa_nil))) (pe_slice sl_tupQ (pv 1) (po_some (pe_op op_add (pv 2) pe_int)) po_none)))) pss_nil)
      (pss_one (ps_ret (pe_ix ix_list (pe_lst (pa_cons (pe_op op_catQ (pe_slice sl_tupQ (pv 1) po_none (po_some (pv 2))) (pe_slice sl_tupQ (pv 1) (po_some (pe_op op_add (pv 2) pe_int)) po_none)) (pa_cons (pe_op op_catQ (pe_slice sl_tupQ (pv 1) po_none (po_some (pe_op op_add (pv 2) pe_int))) (pe_slice sl_tupQ (pv 1) (po_some (pv 2)) po_none)) (pa_cons (pe_revT rfl (pv 1)) pa_nil)))) (pe_op op_sub (pv 3) pe_int) (fun _ _ => rfl)))))) pss_nil)
      (pss_cons (ps_if (pt_val (pe_callB call_isi (by rfl) T.isinstance (by decide +kernel) (pa_cons (pv 1) (pa_cons (pe_bltn (v := .ty "int") (by rfl) T.int (by decide +kernel) rfl) pa_nil)))) (pss_one (ps_ret (pe_has C_law_of gd (hr.mono (by omega)) rfl (pa_cons (pv 0) (pa_cons (pe_lst (pa_cons (pe_op op_addZ (pv 1) pe_int) (pa_cons (pe_op op_subZ (pv 1) pe_int) (pa_cons (pe_op op_addZ (pv 1) pe_int) (pa_cons (pe_cmpR (op_eqQ hr.units) (pv 1) pe_int (nomark _)) (pa_cons (pe_callTy call_strZ (by rfl) T.str (by decide +kernel) (pa_cons (pv 1) pa_nil)) (pa_cons (pe_tup (pa_cons (pv 1) pa_nil)) (pa_cons pe_non pa_nil)))))))) pa_nil))))) pss_nil)
      (pss_cons (ps_if (pt_val (pe_callB call_isi (by rfl) T.isinstance (by decide +kernel) (pa_cons (pv 1) (pa_cons (pe_bltn (v := .ty "tuple") (by rfl) T.tuple (by decide +kernel) rfl) pa_nil)))) (pss_one (ps_ret (pe_has C_law_of gd (hr.mono (by omega)) rfl (pa_cons (pv 0) (pa_cons (pe_lst (pa_cons (pe_callTy call_listX (by rfl) T.list (by decide +kernel) (pa_cons (pv 1) pa_nil)) (pa_cons (pe_tup (pa_cons (pv 1) pa_nil)) (pa_cons (pe_op op_catQ (pv 1) (pe_tup (pa_cons pe_int pa_nil))) (pa_cons (pe_op op_catQ (pe_tup (pa_cons pe_int pa_nil)) (pv 1)) (pa_cons (pe_tup pa_nil) (pa_cons pe_non pa_nil))))))) pa_nil))))) pss_nil)
      (pss_one (ps_ret (pe_has C_law_odd gd (hr.mono (by omega)) rfl (pa_cons (pv 0) pa_nil))))))), ?_⟩
    obtain ⟨f, rfl⟩ : ∃ g, f = g + 1 := by
      cases f with
      | zero => exact hT.elim
      | succ g => exact ⟨g, rfl⟩
    have shp : SeqAt.shaped d = true := by
      have h1 := hsh.p
      show (d.canLay0 && decide (d.depth ≤ 64)) = true
      rw [hlay, decide_eq_true (by omega : d.depth ≤ 64)]
      rfl
    have sub1 : ∀ e ∈ [a], e ∈ sysModules :: ex := fun e he => by rw [List.mem_singleton.mp he]; exact List.mem_cons_of_mem _ hax
    have out : ∀ {Hk : Hp} {m : Nat} {t : Addr}, PotAt Hk a m → But a H Hk → Hk t = none → t ≠ sysModules → t ∉ sysModules :: ex := fun {Hk} {m} {t} p b z hs hm => by
      rcases List.mem_cons.mp hm with hm | hm
      · exact hs hm
      by_cases c : t = a
      · obtain ⟨g, s, cc, e, _⟩ := p
        rw [c, e] at z
        cases z
      · cases e : H t with
        | none => exact hex t hm e
        | some o => rw [b t o e c] at z; cases z
    have hexB : ∀ {Hk : Hp} {m : Nat}, PotAt Hk a m → But a H Hk → ∀ e ∈ ex, Hk e ≠ none := fun {Hk} {m} p b e he z => by
      by_cases c : e = a
      · obtain ⟨g, s, cc, e1, _⟩ := p
        rw [c, e1] at z
        cases z
      · cases e1 : H e with
        | none => exact hex e he e1
        | some o => rw [b e o e1 c] at z; cases z
    cases hd with
    | @tup t xs ds hTu hall =>
      have hlen := hall.length
      have pwn : pw ds ≤ n := hsh.parts.1
      have dl := pw_len ds
      refine ⟨_, rfl, _, _, _, _, true, rfl, .ty _, tyx_seqt hTu, kit_ty (by decide +kernel), true, rfl, ?_⟩
      refine iteT ?_
      refine ⟨_, rfl, Nat.zero_le _, fun e0 he0 => ?_⟩
      have s0 := same_upd (o := .tup []) he0
      have f0 := upd_same (H := H) (a := e0) (o := .tup [])
      have p1 := hp.same s0
      have hT1 := SqT.same s0 hTu
      have hall1 := hall.same s0
      have b1 : But a H (upd H e0 (.tup [])) := But.of s0
      generalize upd H e0 (.tup []) = H1 at *
      refine ⟨_, _, _, List.mem_cons_self, .tup hT1 hall1, .tup (SqT.of f0) .nil, shp, rfl, _, rfl, ?_⟩
      by_cases c : ds = []
      · refine ite2 (fun z => absurd z (by rw [c]; decide)) (fun _ => ?_)
        refine ⟨_, rfl, _, _, _, _, false, rfl, .ty _, tyx_seqt hT1, kit_ty (by decide +kernel), false, rfl, ?_⟩
        refine iteF ?_
        refine ⟨_, rfl, _, _, _, _, true, rfl, .ty _, tyx_seqt hT1, kit_ty (by decide +kernel), true, rfl, ?_⟩
        refine iteT ?_
        refine ⟨_, rfl, _, rfl, t, xs, rfl, hT1, fun l1 hl1 hs1 => ?_⟩
        have u1 := same_upd (o := .lst xs) hl1
        have g1 := upd_same (H := H1) (a := l1) (o := .lst xs)
        have nl1 : l1 ≠ a := (p1.ne hl1).symm
        have ol1 := out p1 b1 hl1 hs1
        generalize upd H1 l1 (.lst xs) = J1 at *
        refine ⟨_, rfl, by show 1 ≤ sizeLine; decide, fun t2 ht2 => ?_⟩
        have u2 := same_upd (o := .tup [V.ref t]) ht2
        have g2 := upd_same (H := J1) (a := t2) (o := .tup [V.ref t])
        generalize upd J1 t2 (.tup [V.ref t]) = J2 at *
        refine ⟨_, rfl, by show 1 ≤ sizeLine; decide, fun z1 hz1 => ?_⟩
        have u3 := same_upd (o := .tup [V.int 0]) hz1
        have g3 := upd_same (H := J2) (a := z1) (o := .tup [V.int 0])
        generalize upd J2 z1 (.tup [V.int 0]) = J3 at *
        have s13 := u1.trans (u2.trans u3)
        refine ⟨t, z1, xs, [V.int 0], rfl, rfl, SqT.same s13 hT1, SqT.of g3, by show xs.length + 1 ≤ sizeLine; rw [sizeLine_eq]; omega, fun r1 J4 u4 g4 => ?_⟩
        refine ⟨by show 1 ≤ sizeLine; decide, fun z2 hz2 => ?_⟩
        have u5 := same_upd (o := .tup [V.int 0]) hz2
        have g5 := upd_same (H := J4) (a := z2) (o := .tup [V.int 0])
        generalize upd J4 z2 (.tup [V.int 0]) = J5 at *
        refine ⟨_, rfl, z2, t, [V.int 0], xs, rfl, rfl, SqT.of g5, SqT.same (s13.trans (u4.trans u5)) hT1, by show 1 + xs.length ≤ sizeLine; rw [sizeLine_eq]; omega, fun r2 J6 u6 g6 => ?_⟩
        refine ⟨Nat.zero_le _, fun e2 he2 => ?_⟩
        have u7 := same_upd (o := .tup []) he2
        have g7 := upd_same (H := J6) (a := e2) (o := .tup [])
        generalize upd J6 e2 (.tup []) = J7 at *
        refine ⟨by show 6 ≤ sizeLine; decide, fun M hM => ?_⟩
        have s37 := u4.trans (u5.trans (u6.trans u7))
        have p7 := p1.same (s13.trans s37)
        have nM : M ≠ a := (p7.ne hM).symm
        have u8 := same_upd (o := .lst [V.ref l1, .ref t2, .ref r1, .ref r2, .ref e2, .non]) hM
        have s18 : Same H1 (upd J7 M (.lst [V.ref l1, .ref t2, .ref r1, .ref r2, .ref e2, .non])) := s13.trans (s37.trans u8)
        have b18 := b1.trans (But.of s18)
        have w1 := (u2.trans (u3.trans (s37.trans u8))) _ _ g1
        have w2 := (u3.trans (s37.trans u8)) _ _ g2
        have w4 := SqT.same (u5.trans (u6.trans (u7.trans u8))) g4
        have w6 := SqT.same (u7.trans u8) g6
        have w7 := u8 _ _ g7
        have aX := (hall1).same s18
        have tX := SqT.same s18 hT1
        refine ⟨a, M, _, _, rfl, p7.same u8, by omega, SqL.of upd_same, nM, by show 0 < 6; decide, by show 6 ≤ 1000; decide, fun v H9 hv p9 b9 => ?_⟩
        have pv := p7.same u8
        have w1 := b9 _ _ w1 nl1
        have w2 := b9 _ _ w2 (pv.ne_tup w2)
        have w4 := Buts.sqt b9.buts pv.noTup w4
        have w6 := Buts.sqt b9.buts pv.noTup w6
        have w7 := b9 _ _ w7 (pv.ne_tup w7)
        have aX := Dq.butsAll b9.buts pv.noTup sub1 ds xs aX
        have tX := Buts.sqt b9.buts pv.noTup tX
        have dT : Dq K (sysModules :: ex) H9 (.ref t) (.tuple ds) := .tup tX aX
        have fin : ∀ (v' : V) (d' : PyData), v = v' → Dq K (sysModules :: ex) H9 v' d' → ShQ d' (3 * n + 8100) (k + 1) → d'.canLay0 = true → Td (b + 3) (f + 1 + 1) d' → Q v H9 := fun v' d' e h1 h2 h3 h4 => by
          rw [e]
          exact kk v' d' H9 h1 (h2.mono (by omega) (by omega)) (fun _ => ⟨h3, h4, h2⟩) (p9.mono (by omega)) (b18.trans b9)
        rcases List.mem_cons.mp hv with e | hv
        · exact fin _ (.list ds) e (.lst w1 ol1 aX) (ShQ.list_of (fun d hd => ⟨(hsh.parts.2 d hd).1, by have := (hsh.parts.2 d hd).2; omega⟩) (by omega) (by omega)) ((lay_list ds).mpr ((lay_tup ds).mp hlay)) trivial
        rcases List.mem_cons.mp hv with e | hv
        · refine fin _ (.tuple [.tuple ds]) e (.tup (SqT.of w2) (.cons dT .nil)) (ShQ.tup_of (fun d hd => by rw [List.mem_singleton.mp hd]; exact ⟨hsh.s, by have := hsh.p; omega⟩) (by omega) (by rw [pw_cons, pw_nil]; have := hsh.l; omega)) ((lay_tup _).mpr fun d hd => by rw [List.mem_singleton.mp hd]; exact hlay) ?_
          intro d hd
          rw [List.mem_singleton.mp hd]
          exact Td.mono (by omega) (Nat.le_refl _) hT
        rcases List.mem_cons.mp hv with e | hv
        · refine fin _ (.tuple (ds ++ [.int 0])) e (.tup w4 (aX.app (.cons (.int 0) .nil))) (ShQ.tup_of (fun d hd => (List.mem_append.mp hd).elim (fun hd => ⟨(hsh.parts.2 d hd).1, by have := (hsh.parts.2 d hd).2; omega⟩) fun hd => by rw [List.mem_singleton.mp hd]; exact ⟨rfl, by show 0 + 1 ≤ k + 1; omega⟩) (by omega) (by rw [pw_append, pw_cons, pw_nil]; have : (PyData.int 0).shown.length = 1 := (by decide +kernel); omega)) ((lay_tup _).mpr fun d hd => (List.mem_append.mp hd).elim (fun hd => (lay_tup ds).mp hlay d hd) fun hd => by obtain rfl := List.mem_singleton.mp hd; rfl) ?_
          intro d hd
          rcases List.mem_append.mp hd with hd | hd
          · exact Td.mono (by omega) (Nat.le_succ _) (hT d hd)
          · rw [List.mem_singleton.mp hd]
            exact ⟨by omega, by omega⟩
        rcases List.mem_cons.mp hv with e | hv
        · refine fin _ (.tuple ([.int 0] ++ ds)) e (.tup w6 (DqAll.app (.cons (.int 0) .nil) aX)) (ShQ.tup_of (fun d hd => (List.mem_append.mp hd).elim (fun hd => by rw [List.mem_singleton.mp hd]; exact ⟨rfl, by show 0 + 1 ≤ k + 1; omega⟩) fun hd => ⟨(hsh.parts.2 d hd).1, by have := (hsh.parts.2 d hd).2; omega⟩) (by omega) (by rw [pw_append, pw_cons, pw_nil]; have : (PyData.int 0).shown.length = 1 := (by decide +kernel); omega)) ((lay_tup _).mpr fun d hd => (List.mem_append.mp hd).elim (fun hd => by obtain rfl := List.mem_singleton.mp hd; rfl) fun hd => (lay_tup ds).mp hlay d hd) ?_
          intro d hd
          rcases List.mem_append.mp hd with hd | hd
          · rw [List.mem_singleton.mp hd]
            exact ⟨by omega, by omega⟩
          · exact Td.mono (by omega) (Nat.le_succ _) (hT d hd)
        rcases List.mem_cons.mp hv with e | hv
        · exact fin _ (.tuple []) e (.tup (SqT.of w7) .nil) (ShQ.tup_of (fun d hd => nomatch hd) (by omega) (by rw [pw_nil]; omega)) rfl (fun d hd => nomatch hd)
        · exact fin _ .none (List.mem_singleton.mp hv) .non (Sh.non.q.mono (by omega) (by omega)) rfl trivial
      · refine ite2 (fun _ => ?_) (fun z => absurd (by cases ds with | nil => exact absurd rfl c | cons _ _ => rfl) z)
        refine ⟨_, rfl, a, m, 4, rfl, p1, by omega, by decide, by decide, fun q H2 q0 q1 p2 b2 => ⟨_, _, rfl, rfl, _, rfl, ?_⟩⟩
        have hT2 : SqT K H2 t xs := Buts.sqt b2.buts p1.noTup hT1
        have hall2 : DqAll K (sysModules :: ex) H2 xs ds := Dq.butsAll b2.buts p1.noTup sub1 ds xs hall1
        by_cases c2 : 0 < q
        · refine ite2 (fun _ => ?_) (fun z => absurd (decide_eq_true c2) z)
          have dpos : 0 < ds.length := List.length_pos_iff.mpr c
          have b02 := b1.trans b2
          refine ⟨_, rfl, _, rfl, t, xs, rfl, .inr hT2, a, _, _, rfl, p2, by omega, by omega, small600 (by omega) (by omega), fun i H3 i0 i1 p3 b3 => ?_⟩
          obtain ⟨i, rfl⟩ := Int.eq_ofNat_of_zero_le i0
          refine ⟨_, rfl, a, _, 7, rfl, p3, by omega, by decide, by decide, fun j H4 j0 j1 p4 b4 => ?_⟩
          obtain ⟨j, rfl⟩ := Int.eq_ofNat_of_zero_le j0
          refine ⟨_, _, rfl, ?_⟩
          have b34 := b3.trans b4
          have hT4 : SqT K H4 t xs := Buts.sqt b34.buts p2.noTup hT2
          have hall4 : DqAll K (sysModules :: ex) H4 xs ds := Dq.butsAll b34.buts p2.noTup sub1 ds xs hall2
          have b04 := b02.trans b34
          have il : i < xs.length := by omega
          have xsz : xs.length ≤ 50000 := by omega
          refine ⟨_, rfl, _, _, rfl, rfl, _, rfl, ?_⟩
          by_cases cj : (j : Int) < 4
          · refine ite2 (fun _ => ?_) (fun z => absurd (decide_eq_true cj) z)
            refine ⟨_, rfl, _, rfl, _, rfl, t, xs, rfl, hT4, fun r1 H5 s5 e5 => ?_⟩
            have hx := List.getElem?_eq_getElem (l := xs) il
            obtain ⟨dd, hdd, hdq⟩ := (hall4.same s5).at hx
            have hdm := List.mem_of_getElem? hdd
            have hpt := hsh.parts.2 dd hdm
            have hsp := pw_split hdd
            have p5 := p4.same s5
            have b05 := b04.trans (But.of s5)
            refine ⟨_, rfl, _, rfl, _, rfl, t, _, _, _, rfl, rfl, SqT.same s5 hT4, at_of (j := i) rfl hx, ?_⟩
            refine ⟨a, _, f, dd.shown.length, k - 1, b, _, dd, ex, rfl, by omega, p5, by omega, hax, hexB p5 b05, hdq, ⟨hpt.1, by omega, Nat.le_refl _⟩, by omega, by omega, (lay_tup ds).mp hlay dd hdm, hT dd hdm, b0, by omega, fun v' d' H6 h1 h2 h3 p6 b6 => ?_⟩
            refine ⟨by show 1 ≤ sizeLine; decide, fun t6 ht6 => ?_⟩
            have s6 := same_upd (o := .tup [v']) ht6
            have e6 := upd_same (H := H6) (a := t6) (o := .tup [v'])
            have e5' := SqT.same s6 (Buts.sqt b6.buts p5.noTup e5)
            have hT6 := SqT.same s6 (Buts.sqt b6.buts p5.noTup (SqT.same s5 hT4))
            have hall6 : DqAll K (sysModules :: ex) _ xs ds := (Dq.butsAll b6.buts p5.noTup sub1 ds xs (hall4.same s5)).same s6
            have h1' := h1.same s6
            have p6' := p6.same s6
            have b06 := b05.trans (b6.trans (But.of s6))
            generalize upd H6 t6 (.tup [v']) = H7 at *
            rw [cut_to] at e5'
            refine ⟨r1, t6, xs.take i, [v'], rfl, rfl, e5', SqT.of e6, by rw [List.length_take, sizeLine_eq]; show min i xs.length + 1 ≤ _; omega, fun r2 H8 s8 e8 => ?_⟩
            refine ⟨_, rfl, _, rfl, _, _, rfl, rfl, _, rfl, t, xs, rfl, SqT.same s8 hT6, fun r3 H9 s9 e9 => ?_⟩
            have e9 : SqT K H9 r3 (xs.drop (i + 1)) := by
              have q := e9
              rw [show ((i : Nat) : Int) + 1 = ((i + 1 : Nat) : Int) from rfl, cut_from] at q
              exact q
            refine ⟨r2, r3, _, _, rfl, rfl, SqT.same s9 e8, e9, by rw [List.length_append, List.length_take, List.length_drop, sizeLine_eq]; show min i xs.length + 1 + _ ≤ _; omega, fun r4 HA sA eA => ?_⟩
            have s7A := s8.trans (s9.trans sA)
            have hallA := hall6.same s7A
            have wl : pw (ds.take i ++ [d'] ++ ds.drop (i + 1)) + 3 ≤ 3 * n + (d'.shown.length - 3 * dd.shown.length) := by
              rw [pw_append, pw_append, pw_cons, pw_nil]
              omega
            have mem : ∀ {φ : PyData → Prop}, φ d' → (∀ d ∈ ds, φ d) → ∀ d ∈ ds.take i ++ [d'] ++ ds.drop (i + 1), φ d := fun {φ} h1 h2 d hd => by
              rcases List.mem_append.mp hd with hd | hd
              · rcases List.mem_append.mp hd with hd | hd
                · exact h2 d (List.mem_of_mem_take hd)
                · rw [List.mem_singleton.mp hd]
                  exact h1
              · exact h2 d (List.mem_of_mem_drop hd)
            have sh1 := h2.l
            have sh2 := h2.p
            refine kk (.ref r4) (.tuple (ds.take i ++ [d'] ++ ds.drop (i + 1))) HA (.tup eA (((hallA.take i).app (.cons (h1'.same s7A) .nil)).app (hallA.drop (i + 1)))) (ShQ.tup_of (mem ⟨h2.s, by omega⟩ fun d hd => ⟨(hsh.parts.2 d hd).1, by have := (hsh.parts.2 d hd).2; omega⟩) (by omega) (by omega)) (fun hi => ?_) ((p6'.same s7A).mono (by omega)) (b06.trans (But.of s7A))
            obtain ⟨g1, g2, g3⟩ := h3 (hi dd hdm)
            have sh3 := g3.l
            have sh4 := g3.p
            refine ⟨(lay_tup _).mpr (mem g1 fun d hd => (lay_tup ds).mp hlay d hd), mem g2 fun d hd => Td.mono (by omega) (Nat.le_succ _) (hT d hd), ShQ.tup_of (mem ⟨h2.s, by omega⟩ fun d hd => ⟨(hsh.parts.2 d hd).1, by have := (hsh.parts.2 d hd).2; omega⟩) (by omega) (by omega)⟩
          · refine ite2 (fun z => absurd (of_decide_eq_true z) cj) (fun _ => ?_)
            have tri : ∀ (es : List PyData), (∀ d ∈ es, d ∈ ds) → pw es ≤ 2 * pw ds → (∀ (v' : V) (Hn : Hp), PotAt Hn a (m + 1 + 1 + 1) → But a H Hn → Dq K (sysModules :: ex) Hn v' (.tuple es) → Q v' Hn) := fun es he hw v' Hn pn bn hq => by
              have sub : ∀ (N : Nat) (kq : Nat), pw es + 3 ≤ N → k ≤ kq → ShQ (.tuple es) N kq := fun N kq h1 h2 => ShQ.tup_of (fun d hd => ⟨(hsh.parts.2 d (he d hd)).1, by have := (hsh.parts.2 d (he d hd)).2; omega⟩) (by have := hsh.p; have : 1 ≤ (PyData.tuple ds).depth := Nat.succ_le_succ (Nat.zero_le _); omega) h1
              exact kk v' (.tuple es) Hn hq (sub _ _ (by omega) (by omega)) (fun hi => ⟨(lay_tup es).mpr fun d hd => (lay_tup ds).mp hlay d (he d hd), fun d hd => Td.mono (by omega) (Nat.le_succ _) (hT d (he d hd)), sub _ _ (by omega) (by omega)⟩) (pn.mono (by omega)) bn
            refine ⟨_, rfl, _, rfl, _, rfl, t, xs, rfl, hT4, fun r1 H5 s5 e5 => ?_⟩
            rw [cut_to] at e5
            refine ⟨_, rfl, _, rfl, _, _, rfl, rfl, _, rfl, t, xs, rfl, SqT.same s5 hT4, fun r2 H6 s6 e6 => ?_⟩
            have e6 : SqT K H6 r2 (xs.drop (i + 1)) := by
              have q := e6
              rw [show ((i : Nat) : Int) + 1 = ((i + 1 : Nat) : Int) from rfl, cut_from] at q
              exact q
            refine ⟨r1, r2, _, _, rfl, rfl, SqT.same s6 e5, e6, by rw [List.length_take, List.length_drop, sizeLine_eq]; omega, fun rA H7 s7 e7 => ?_⟩
            have s47 := s5.trans (s6.trans s7)
            refine ⟨_, rfl, _, rfl, _, _, rfl, rfl, _, rfl, t, xs, rfl, SqT.same s47 hT4, fun r3 H8 s8 e8 => ?_⟩
            have e8 : SqT K H8 r3 (xs.take (i + 1)) := by
              have q := e8
              rw [show ((i : Nat) : Int) + 1 = ((i + 1 : Nat) : Int) from rfl, cut_to] at q
              exact q
            refine ⟨_, rfl, _, rfl, _, rfl, t, xs, rfl, SqT.same (s47.trans s8) hT4, fun r4 H9 s9 e9 => ?_⟩
            rw [cut_from] at e9
            refine ⟨r3, r4, _, _, rfl, rfl, SqT.same s9 e8, e9, by rw [List.length_take, List.length_drop, sizeLine_eq]; omega, fun rB HA sA eA => ?_⟩
            have s4A := s47.trans (s8.trans (s9.trans sA))
            refine ⟨_, rfl, t, xs, rfl, SqT.same s4A hT4, fun rC hC => ?_⟩
            have sC := same_upd (o := .tup xs.reverse) hC
            have eC := upd_same (H := HA) (a := rC) (o := .tup xs.reverse)
            generalize upd HA rC (.tup xs.reverse) = HB at *
            refine ⟨by show 3 ≤ sizeLine; decide, fun M hM => ?_⟩
            have sM := same_upd (o := .lst [V.ref rA, .ref rB, .ref rC]) hM
            have s4M := s4A.trans (sC.trans sM)
            have pM := p4.same s4M
            have bM := b04.trans (But.of s4M)
            have aM := hall4.same s4M
            have mA := SqT.same (s8.trans (s9.trans (sA.trans (sC.trans sM)))) e7
            have mB := SqT.same (sC.trans sM) eA
            have mC := sM _ _ eC
            have j3 : j = 4 ∨ j = 5 ∨ j = 6 := by omega
            rcases j3 with rfl | rfl | rfl
            · refine ⟨_, rfl, _, _, rfl, rfl, M, _, _, _, rfl, rfl, SqL.of upd_same, at_of (j := 0) rfl rfl, ?_⟩
              exact tri (ds.take i ++ ds.drop (i + 1)) (fun d hd => (List.mem_append.mp hd).elim List.mem_of_mem_take List.mem_of_mem_drop) (by
                have h1 := pw_take_drop ds i
                have h2 := pw_take_drop (ds.drop i) 1
                rw [List.drop_drop] at h2
                rw [pw_append]
                omega) _ _ pM bM (.tup mA ((aM.take i).app (aM.drop (i + 1))))
            · refine ⟨_, rfl, _, _, rfl, rfl, M, _, _, _, rfl, rfl, SqL.of upd_same, at_of (j := 1) rfl rfl, ?_⟩
              exact tri (ds.take (i + 1) ++ ds.drop i) (fun d hd => (List.mem_append.mp hd).elim List.mem_of_mem_take List.mem_of_mem_drop) (by
                have h1 := pw_take_drop ds i
                have h2 := pw_take_drop ds (i + 1)
                rw [pw_append]
                omega) _ _ pM bM (.tup mB ((aM.take (i + 1)).app (aM.drop i)))
            · refine ⟨_, rfl, _, _, rfl, rfl, M, _, _, _, rfl, rfl, SqL.of upd_same, at_of (j := 2) rfl rfl, ?_⟩
              exact tri ds.reverse (fun d hd => List.mem_reverse.mp hd) (by rw [pw_reverse]; omega) _ _ pM bM (.tup (SqT.of mC) aM.rev)
        · refine ite2 (fun z => absurd (of_decide_eq_true z) c2) (fun _ => ?_)
          have b02 := b1.trans b2
          refine ⟨_, rfl, _, _, _, _, false, rfl, .ty _, tyx_seqt hT2, kit_ty (by decide +kernel), false, rfl, ?_⟩
          refine iteF ?_
          refine ⟨_, rfl, _, _, _, _, true, rfl, .ty _, tyx_seqt hT2, kit_ty (by decide +kernel), true, rfl, ?_⟩
          refine iteT ?_
          refine ⟨_, rfl, _, rfl, t, xs, rfl, hT2, fun l1 hl1 hs1 => ?_⟩
          have u1 := same_upd (o := .lst xs) hl1
          have g1 := upd_same (H := H2) (a := l1) (o := .lst xs)
          have nl1 : l1 ≠ a := (p2.ne hl1).symm
          have ol1 := out p2 b02 hl1 hs1
          generalize upd H2 l1 (.lst xs) = J1 at *
          refine ⟨_, rfl, by show 1 ≤ sizeLine; decide, fun t2 ht2 => ?_⟩
          have u2 := same_upd (o := .tup [V.ref t]) ht2
          have g2 := upd_same (H := J1) (a := t2) (o := .tup [V.ref t])
          generalize upd J1 t2 (.tup [V.ref t]) = J2 at *
          refine ⟨_, rfl, by show 1 ≤ sizeLine; decide, fun z1 hz1 => ?_⟩
          have u3 := same_upd (o := .tup [V.int 0]) hz1
          have g3 := upd_same (H := J2) (a := z1) (o := .tup [V.int 0])
          generalize upd J2 z1 (.tup [V.int 0]) = J3 at *
          have s13 := u1.trans (u2.trans u3)
          refine ⟨t, z1, xs, [V.int 0], rfl, rfl, SqT.same s13 hT2, SqT.of g3, by show xs.length + 1 ≤ sizeLine; rw [sizeLine_eq]; omega, fun r1 J4 u4 g4 => ?_⟩
          refine ⟨by show 1 ≤ sizeLine; decide, fun z2 hz2 => ?_⟩
          have u5 := same_upd (o := .tup [V.int 0]) hz2
          have g5 := upd_same (H := J4) (a := z2) (o := .tup [V.int 0])
          generalize upd J4 z2 (.tup [V.int 0]) = J5 at *
          refine ⟨_, rfl, z2, t, [V.int 0], xs, rfl, rfl, SqT.of g5, SqT.same (s13.trans (u4.trans u5)) hT2, by show 1 + xs.length ≤ sizeLine; rw [sizeLine_eq]; omega, fun r2 J6 u6 g6 => ?_⟩
          refine ⟨Nat.zero_le _, fun e2 he2 => ?_⟩
          have u7 := same_upd (o := .tup []) he2
          have g7 := upd_same (H := J6) (a := e2) (o := .tup [])
          generalize upd J6 e2 (.tup []) = J7 at *
          refine ⟨by show 6 ≤ sizeLine; decide, fun M hM => ?_⟩
          have s37 := u4.trans (u5.trans (u6.trans u7))
          have p7 := p2.same (s13.trans s37)
          have nM : M ≠ a := (p7.ne hM).symm
          have u8 := same_upd (o := .lst [V.ref l1, .ref t2, .ref r1, .ref r2, .ref e2, .non]) hM
          have s18 : Same H2 (upd J7 M (.lst [V.ref l1, .ref t2, .ref r1, .ref r2, .ref e2, .non])) := s13.trans (s37.trans u8)
          have b18 := b02.trans (But.of s18)
          have w1 := (u2.trans (u3.trans (s37.trans u8))) _ _ g1
          have w2 := (u3.trans (s37.trans u8)) _ _ g2
          have w4 := SqT.same (u5.trans (u6.trans (u7.trans u8))) g4
          have w6 := SqT.same (u7.trans u8) g6
          have w7 := u8 _ _ g7
          have aX := (hall2).same s18
          have tX := SqT.same s18 hT2
          refine ⟨a, M, _, _, rfl, p7.same u8, by omega, SqL.of upd_same, nM, by show 0 < 6; decide, by show 6 ≤ 1000; decide, fun v H9 hv p9 b9 => ?_⟩
          have pv := p7.same u8
          have w1 := b9 _ _ w1 nl1
          have w2 := b9 _ _ w2 (pv.ne_tup w2)
          have w4 := Buts.sqt b9.buts pv.noTup w4
          have w6 := Buts.sqt b9.buts pv.noTup w6
          have w7 := b9 _ _ w7 (pv.ne_tup w7)
          have aX := Dq.butsAll b9.buts pv.noTup sub1 ds xs aX
          have tX := Buts.sqt b9.buts pv.noTup tX
          have dT : Dq K (sysModules :: ex) H9 (.ref t) (.tuple ds) := .tup tX aX
          have fin : ∀ (v' : V) (d' : PyData), v = v' → Dq K (sysModules :: ex) H9 v' d' → ShQ d' (3 * n + 8100) (k + 1) → d'.canLay0 = true → Td (b + 3) (f + 1 + 1) d' → Q v H9 := fun v' d' e h1 h2 h3 h4 => by
            rw [e]
            exact kk v' d' H9 h1 (h2.mono (by omega) (by omega)) (fun _ => ⟨h3, h4, h2⟩) (p9.mono (by omega)) (b18.trans b9)
          rcases List.mem_cons.mp hv with e | hv
          · exact fin _ (.list ds) e (.lst w1 ol1 aX) (ShQ.list_of (fun d hd => ⟨(hsh.parts.2 d hd).1, by have := (hsh.parts.2 d hd).2; omega⟩) (by omega) (by omega)) ((lay_list ds).mpr ((lay_tup ds).mp hlay)) trivial
          rcases List.mem_cons.mp hv with e | hv
          · refine fin _ (.tuple [.tuple ds]) e (.tup (SqT.of w2) (.cons dT .nil)) (ShQ.tup_of (fun d hd => by rw [List.mem_singleton.mp hd]; exact ⟨hsh.s, by have := hsh.p; omega⟩) (by omega) (by rw [pw_cons, pw_nil]; have := hsh.l; omega)) ((lay_tup _).mpr fun d hd => by rw [List.mem_singleton.mp hd]; exact hlay) ?_
            intro d hd
            rw [List.mem_singleton.mp hd]
            exact Td.mono (by omega) (Nat.le_refl _) hT
          rcases List.mem_cons.mp hv with e | hv
          · refine fin _ (.tuple (ds ++ [.int 0])) e (.tup w4 (aX.app (.cons (.int 0) .nil))) (ShQ.tup_of (fun d hd => (List.mem_append.mp hd).elim (fun hd => ⟨(hsh.parts.2 d hd).1, by have := (hsh.parts.2 d hd).2; omega⟩) fun hd => by rw [List.mem_singleton.mp hd]; exact ⟨rfl, by show 0 + 1 ≤ k + 1; omega⟩) (by omega) (by rw [pw_append, pw_cons, pw_nil]; have : (PyData.int 0).shown.length = 1 := (by decide +kernel); omega)) ((lay_tup _).mpr fun d hd => (List.mem_append.mp hd).elim (fun hd => (lay_tup ds).mp hlay d hd) fun hd => by obtain rfl := List.mem_singleton.mp hd; rfl) ?_
            intro d hd
            rcases List.mem_append.mp hd with hd | hd
            · exact Td.mono (by omega) (Nat.le_succ _) (hT d hd)
            · rw [List.mem_singleton.mp hd]
              exact ⟨by omega, by omega⟩
          rcases List.mem_cons.mp hv with e | hv
          · refine fin _ (.tuple ([.int 0] ++ ds)) e (.tup w6 (DqAll.app (.cons (.int 0) .nil) aX)) (ShQ.tup_of (fun d hd => (List.mem_append.mp hd).elim (fun hd => by rw [List.mem_singleton.mp hd]; exact ⟨rfl, by show 0 + 1 ≤ k + 1; omega⟩) fun hd => ⟨(hsh.parts.2 d hd).1, by have := (hsh.parts.2 d hd).2; omega⟩) (by omega) (by rw [pw_append, pw_cons, pw_nil]; have : (PyData.int 0).shown.length = 1 := (by decide +kernel); omega)) ((lay_tup _).mpr fun d hd => (List.mem_append.mp hd).elim (fun hd => by obtain rfl := List.mem_singleton.mp hd; rfl) fun hd => (lay_tup ds).mp hlay d hd) ?_
            intro d hd
            rcases List.mem_append.mp hd with hd | hd
            · rw [List.mem_singleton.mp hd]
              exact ⟨by omega, by omega⟩
            · exact Td.mono (by omega) (Nat.le_succ _) (hT d hd)
          rcases List.mem_cons.mp hv with e | hv
          · exact fin _ (.tuple []) e (.tup (SqT.of w7) .nil) (ShQ.tup_of (fun d hd => nomatch hd) (by omega) (by rw [pw_nil]; omega)) rfl (fun d hd => nomatch hd)
          · exact fin _ .none (List.mem_singleton.mp hv) .non (Sh.non.q.mono (by omega) (by omega)) rfl trivial
    | int i =>
      have zb : Ti (f + 1) (.int i) → -b ≤ i ∧ i ≤ b := fun _ => hT
      have z1 : -(10 ^ 30) ≤ i := by have := hT.1; omega
      have z2 : i ≤ 10 ^ 30 := Int.le_trans hT.2 b1
      have hd : Dq K (sysModules :: ex) H (.int i) (.int i) := .int i
      have hz : i.natAbs < 2 ^ 600 := small600 (by omega) (by omega)
      refine ⟨_, rfl, _, _, _, _, false, rfl, .ty _, .base (.int i), kit_ty (by decide +kernel), false, rfl, ?_⟩
      refine iteF ?_
      refine ⟨_, rfl, _, _, _, _, true, rfl, .ty _, .base (.int i), kit_ty (by decide +kernel), true, rfl, ?_⟩
      refine iteT ?_
      refine ⟨_, rfl, _, rfl, _, _, rfl, rfl, _, rfl, _, _, rfl, rfl, _, rfl, _, _, rfl, rfl, _, rfl, sysModules :: ex, _, _, List.mem_cons_self, hd, .int 1, shp, rfl, _, rfl, ?_⟩
      refine .inl ⟨_, rfl, Nat.lt_trans (PySem.Flt.log2_lt_of (by decide : 0 < 600) hz) (by decide), ?_⟩
      refine ⟨_, rfl, by show 1 ≤ sizeLine; decide, fun t2 ht2 => ?_⟩
      have u2 := same_upd (o := .tup [V.int i]) ht2
      have g2 := upd_same (H := H) (a := t2) (o := .tup [V.int i])
      generalize upd H t2 (.tup [V.int i]) = J2 at *
      refine ⟨by show 7 ≤ sizeLine; decide, fun M hM => ?_⟩
      have p2 := hp.same u2
      have nM : M ≠ a := (p2.ne hM).symm
      refine ⟨a, M, _, _, rfl, p2.same (same_upd hM), by omega, SqL.of upd_same, nM, by show 0 < 7; decide, by show 7 ≤ 1000; decide, fun v H9 hv p9 b9 => ?_⟩
      have s8 := fun (o : HO) => u2.trans (same_upd (o := o) hM)
      have g9 := b9 _ _ (same_upd hM _ _ g2) (p2.ne_tup g2)
      have b09 := (But.of (a := a) (s8 _)).trans b9
      have fin : ∀ (v' : V) (d' : PyData), v = v' → Dq K (sysModules :: ex) H9 v' d' → ShQ d' (3 * n + 8100) (k + 1) → d'.canLay0 = true → (Ti (f + 1) (PyData.int i) → Td (b + 3) (f + 1 + 1) d') → Q v H9 := fun v' d' e h1 h2 h3 h4 => by
        rw [e]
        exact kk v' d' H9 h1 (h2.mono (by omega) (by omega)) (fun hi => ⟨h3, h4 hi, h2⟩) (p9.mono (by omega)) b09
      rcases List.mem_cons.mp hv with e | hv
      · exact fin _ (.int _) e (.int _) ((Sh.int (small600 (by omega) (by omega))).q.mono (by omega) (by omega)) rfl (fun hi => ⟨by have := zb hi; omega, by have := zb hi; omega⟩)
      rcases List.mem_cons.mp hv with e | hv
      · exact fin _ (.int _) e (.int _) ((Sh.int (small600 (by omega) (by omega))).q.mono (by omega) (by omega)) rfl (fun hi => ⟨by have := zb hi; omega, by have := zb hi; omega⟩)
      rcases List.mem_cons.mp hv with e | hv
      · exact fin _ (.int _) e (.int _) ((Sh.int (small600 (by omega) (by omega))).q.mono (by omega) (by omega)) rfl (fun hi => ⟨by have := zb hi; omega, by have := zb hi; omega⟩)
      rcases List.mem_cons.mp hv with e | hv
      · exact fin _ (.bool _) e (.bl _) ((Sh.bl _).q.mono (by omega) (by omega)) rfl (fun _ => trivial)
      rcases List.mem_cons.mp hv with e | hv
      · exact fin _ (.str _) e (.str _) ((ShQ.num hz).mono (by omega) (by omega)) (strOk_of _) (fun _ => trivial)
      rcases List.mem_cons.mp hv with e | hv
      · refine fin _ (.tuple [(PyData.int i)]) e (.tup (SqT.of g9) (.cons (.int i) .nil)) (ShQ.tup_of (fun d hd => by obtain rfl := List.mem_singleton.mp hd; exact ⟨hsh.s, by have := hsh.p; omega⟩) (by omega) (by rw [pw_cons, pw_nil]; have := hsh.l; omega)) ((lay_tup _).mpr fun d hd => by obtain rfl := List.mem_singleton.mp hd; rfl) ?_
        intro hi d hd
        obtain rfl := List.mem_singleton.mp hd
        exact Td.mono (by omega) (Nat.le_refl _) hT
      · exact fin _ .none (List.mem_singleton.mp hv) .non (Sh.non.q.mono (by omega) (by omega)) rfl (fun _ => trivial)
    | bl c =>
      have zb : Ti (f + 1) (.bool c) → -b ≤ (if c = true then (1 : Int) else 0) ∧ (if c = true then (1 : Int) else 0) ≤ b := fun hi => (hi : False).elim
      have z1 : 0 ≤ (if c = true then (1 : Int) else 0) := by cases c <;> decide
      have z2 : (if c = true then (1 : Int) else 0) ≤ 1 := by cases c <;> decide
      have hd : Dq K (sysModules :: ex) H (.bl c) (.bool c) := .bl c
      refine ⟨_, rfl, _, _, _, _, false, rfl, .ty _, .base (.bl c), kit_ty (by decide +kernel), false, rfl, ?_⟩
      refine iteF ?_
      refine ⟨_, rfl, _, _, _, _, true, rfl, .ty _, .base (.bl c), kit_ty (by decide +kernel), true, rfl, ?_⟩
      refine iteT ?_
      refine ⟨_, rfl, _, rfl, _, _, rfl, rfl, _, rfl, _, _, rfl, rfl, _, rfl, _, _, rfl, rfl, _, rfl, sysModules :: ex, _, _, List.mem_cons_self, hd, .int 1, shp, rfl, _, rfl, ?_⟩
      refine .inr ⟨_, rfl, ?_⟩
      refine ⟨_, rfl, by show 1 ≤ sizeLine; decide, fun t2 ht2 => ?_⟩
      have u2 := same_upd (o := .tup [V.bl c]) ht2
      have g2 := upd_same (H := H) (a := t2) (o := .tup [V.bl c])
      generalize upd H t2 (.tup [V.bl c]) = J2 at *
      refine ⟨by show 7 ≤ sizeLine; decide, fun M hM => ?_⟩
      have p2 := hp.same u2
      have nM : M ≠ a := (p2.ne hM).symm
      refine ⟨a, M, _, _, rfl, p2.same (same_upd hM), by omega, SqL.of upd_same, nM, by show 0 < 7; decide, by show 7 ≤ 1000; decide, fun v H9 hv p9 b9 => ?_⟩
      have s8 := fun (o : HO) => u2.trans (same_upd (o := o) hM)
      have g9 := b9 _ _ (same_upd hM _ _ g2) (p2.ne_tup g2)
      have b09 := (But.of (a := a) (s8 _)).trans b9
      have fin : ∀ (v' : V) (d' : PyData), v = v' → Dq K (sysModules :: ex) H9 v' d' → ShQ d' (3 * n + 8100) (k + 1) → d'.canLay0 = true → (Ti (f + 1) (PyData.bool c) → Td (b + 3) (f + 1 + 1) d') → Q v H9 := fun v' d' e h1 h2 h3 h4 => by
        rw [e]
        exact kk v' d' H9 h1 (h2.mono (by omega) (by omega)) (fun hi => ⟨h3, h4 hi, h2⟩) (p9.mono (by omega)) b09
      rcases List.mem_cons.mp hv with e | hv
      · exact fin _ (.int _) e (.int _) ((Sh.int (small600 (by omega) (by omega))).q.mono (by omega) (by omega)) rfl (fun hi => ⟨by have := zb hi; omega, by have := zb hi; omega⟩)
      rcases List.mem_cons.mp hv with e | hv
      · exact fin _ (.int _) e (.int _) ((Sh.int (small600 (by omega) (by omega))).q.mono (by omega) (by omega)) rfl (fun hi => ⟨by have := zb hi; omega, by have := zb hi; omega⟩)
      rcases List.mem_cons.mp hv with e | hv
      · exact fin _ (.int _) e (.int _) ((Sh.int (small600 (by omega) (by omega))).q.mono (by omega) (by omega)) rfl (fun hi => ⟨by have := zb hi; omega, by have := zb hi; omega⟩)
      rcases List.mem_cons.mp hv with e | hv
      · exact fin _ (.bool _) e (.bl _) ((Sh.bl _).q.mono (by omega) (by omega)) rfl (fun _ => trivial)
      rcases List.mem_cons.mp hv with e | hv
      · exact fin _ (.str _) e (.str _) ⟨rfl, (by show 0 ≤ k + 1; omega), (by have : (PyData.str (boolT c)).shown.length ≤ 10 := (by cases c <;> decide +kernel); omega)⟩ (by cases c <;> decide +kernel) (fun _ => trivial)
      rcases List.mem_cons.mp hv with e | hv
      · refine fin _ (.tuple [(PyData.bool c)]) e (.tup (SqT.of g9) (.cons (.bl c) .nil)) (ShQ.tup_of (fun d hd => by obtain rfl := List.mem_singleton.mp hd; exact ⟨hsh.s, by have := hsh.p; omega⟩) (by omega) (by rw [pw_cons, pw_nil]; have := hsh.l; omega)) ((lay_tup _).mpr fun d hd => by obtain rfl := List.mem_singleton.mp hd; rfl) ?_
        intro hi d hd
        obtain rfl := List.mem_singleton.mp hd
        exact Td.mono (by omega) (Nat.le_refl _) hT
      · exact fin _ .none (List.mem_singleton.mp hv) .non (Sh.non.q.mono (by omega) (by omega)) rfl (fun _ => trivial)
    | non =>
      refine ⟨_, rfl, _, _, _, _, false, rfl, .ty _, .base .non, kit_ty (by decide +kernel), false, rfl, ?_⟩
      refine iteF ?_
      refine ⟨_, rfl, _, _, _, _, false, rfl, .ty _, .base .non, kit_ty (by decide +kernel), false, rfl, ?_⟩
      refine iteF ?_
      refine ⟨_, rfl, _, _, _, _, false, rfl, .ty _, .base .non, kit_ty (by decide +kernel), false, rfl, ?_⟩
      refine iteF ?_
      exact ⟨_, rfl, a, m, ex, rfl, hp, by omega, hax, hex, fun v' d' H' av p' b' => kk v' d' H' av.1 (av.2.mono (by omega) (by omega)) (fun hi => (hi : False).elim) (p'.mono (by omega)) b'⟩
    | str x =>
      refine ⟨_, rfl, _, _, _, _, false, rfl, .ty _, .base (.str x), kit_ty (by decide +kernel), false, rfl, ?_⟩
      refine iteF ?_
      refine ⟨_, rfl, _, _, _, _, false, rfl, .ty _, .base (.str x), kit_ty (by decide +kernel), false, rfl, ?_⟩
      refine iteF ?_
      refine ⟨_, rfl, _, _, _, _, false, rfl, .ty _, .base (.str x), kit_ty (by decide +kernel), false, rfl, ?_⟩
      refine iteF ?_
      exact ⟨_, rfl, a, m, ex, rfl, hp, by omega, hax, hex, fun v' d' H' av p' b' => kk v' d' H' av.1 (av.2.mono (by omega) (by omega)) (fun hi => (hi : False).elim) (p'.mono (by omega)) b'⟩
    | lst e nb ha =>
      refine ⟨_, rfl, _, _, _, _, false, rfl, .ty _, .base (.lst e), kit_ty (by decide +kernel), false, rfl, ?_⟩
      refine iteF ?_
      refine ⟨_, rfl, _, _, _, _, false, rfl, .ty _, .base (.lst e), kit_ty (by decide +kernel), false, rfl, ?_⟩
      refine iteF ?_
      refine ⟨_, rfl, _, _, _, _, false, rfl, .ty _, .base (.lst e), kit_ty (by decide +kernel), false, rfl, ?_⟩
      refine iteF ?_
      exact ⟨_, rfl, a, m, ex, rfl, hp, by omega, hax, hex, fun v' d' H' av p' b' => kk v' d' H' av.1 (av.2.mono (by omega) (by omega)) (fun hi => (hi : False).elim) (p'.mono (by omega)) b'⟩
    | dct e nb ha => cases hlay
end
/-- a list of values of any kind, beside a pot -/
structure Bag (K : PySem.W.Frag) (a L : Addr) (H0 H : Hp) (xs : List V) (m c : Nat) : Prop where
  pot : PotAt H a m
  but : But a H0 H
  here : H L = some (.lst xs)
  vs : ∀ x ∈ xs, ∃ d, Dq K [sysModules, a, L] H x d ∧ ShQ d 400000 50
  len : xs.length ≤ c
  ne : L ≠ a
  new : H0 L = none
section
variable {K : PySem.W.Frag} {a L : Addr} {H0 H H' : Hp} {xs : List V} {m c : Nat}
theorem Bag.noTup (g : Bag K a L H0 H xs m c) : NoTup [a, L] H := fun e he o ho => by
  rcases List.mem_cons.mp he with he | he
  · exact g.pot.noTup e (List.mem_singleton.mpr he) o ho
  · rw [List.mem_singleton.mp he, g.here] at ho
    cases ho
    exact ⟨fun _ z => (by cases z), fun _ _ z => (by cases z)⟩
theorem Bag.ex (g : Bag K a L H0 H xs m c) : ∀ e ∈ [a, L], H e ≠ none := fun e he z => by
  rcases List.mem_cons.mp he with he | he
  · obtain ⟨g1, s1, c1, e1, _⟩ := g.pot
    rw [he, e1] at z
    cases z
  · rw [List.mem_singleton.mp he, g.here] at z
    cases z
theorem bag_sub : ∀ e ∈ [a, L], e ∈ [sysModules, a, L] := fun e he => List.mem_cons_of_mem _ he
theorem But.two (b : But a H H') : Buts [a, L] H H' := fun c o e n => b c o e fun z => n (by rw [z]; exact List.mem_cons_self)
theorem Bag.dq (g : Bag K a L H0 H xs m c) (b : But a H H') {v : V} {d : PyData} (h : Dq K [sysModules, a, L] H v d) : Dq K [sysModules, a, L] H' v d := Dq.buts b.two g.noTup bag_sub d v h
theorem Bag.step (g : Bag K a L H0 H xs m c) (b : But a H H') {m' : Nat} (p : PotAt H' a m') : Bag K a L H0 H' xs m' c :=
  ⟨p, g.but.trans b, b _ _ g.here g.ne, fun x hx => let ⟨d, h1, h2⟩ := g.vs x hx; ⟨d, g.dq b h1, h2⟩, g.len, g.ne, g.new⟩
theorem Bag.same (g : Bag K a L H0 H xs m c) (s : Same H H') : Bag K a L H0 H' xs m c := g.step (But.of s) (g.pot.same s)
theorem Bag.mono (g : Bag K a L H0 H xs m c) {m' c' : Nat} (h : m ≤ m') (h2 : c ≤ c') : Bag K a L H0 H xs m' c' := ⟨g.pot.mono h, g.but, g.here, g.vs, Nat.le_trans g.len h2, g.ne, g.new⟩
theorem Bag.add (g : Bag K a L H0 H xs m c) (ys : List V) (h : ∀ y ∈ ys, ∃ d, Dq K [sysModules, a, L] H y d ∧ ShQ d 400000 50) {c' : Nat} (hc : c + ys.length ≤ c') : Bag K a L H0 (upd H L (.lst (xs ++ ys))) (xs ++ ys) m c' := by
  have bu : Buts [a, L] H (upd H L (.lst (xs ++ ys))) := fun b o e n => by
    rw [upd_ne (fun z => n (by rw [z]; exact List.mem_cons_of_mem _ (List.mem_singleton.mpr rfl)))]
    exact e
  refine ⟨g.pot.upd g.ne.symm, g.but.new g.new, upd_same, fun x hx => ?_, ?_, g.ne, g.new⟩
  · rcases List.mem_append.mp hx with hx | hx
    · obtain ⟨d, h1, h2⟩ := g.vs x hx
      exact ⟨d, Dq.buts bu g.noTup bag_sub d x h1, h2⟩
    · obtain ⟨d, h1, h2⟩ := h x hx
      exact ⟨d, Dq.buts bu g.noTup bag_sub d x h1, h2⟩
  · rw [List.length_append]
    have := g.len
    omega
theorem Bag.upd (g : Bag K a L H0 H xs m c) {v : V} {d : PyData} (h : Dq K [sysModules, a, L] H v d) (o : HO) : Dq K [sysModules, a, L] (L2.upd H L o) v d := by
  refine Dq.buts (ex := [a, L]) (fun b o e n => ?_) g.noTup bag_sub d v h
  rw [upd_ne (fun z => n (by rw [z]; exact List.mem_cons_of_mem _ (List.mem_singleton.mpr rfl)))]
  exact e
end
/-- a tuple of one new tuple -/
theorem one_at {K : PySem.W.Frag} {bad : List Addr} {J : Hp} {p q : Addr} {vs : List V} {ds : List PyData} (hv : ∀ H, DqAll K bad H vs ds) (hp : J p = none) (hq : (upd J p (.tup vs)) q = none) :
    Same J (upd (upd J p (.tup vs)) q (.tup [.ref p])) ∧ Dq K bad (upd (upd J p (.tup vs)) q (.tup [.ref p])) (.ref q) (.tuple [.tuple ds]) := by
  refine ⟨(same_upd hp).trans (same_upd hq), .tup (SqT.of upd_same) (.cons (.tup (SqT.of ?_) (hv _)) .nil)⟩
  exact same_upd hq _ _ upd_same
/-- a tuple of two new tuples -/
theorem two_at {K : PySem.W.Frag} {bad : List Addr} {J : Hp} {p q r : Addr} {vs us : List V} {ds es : List PyData} (hv : ∀ H, DqAll K bad H vs ds) (hu : ∀ H, DqAll K bad H us es) (hp : J p = none) (hq : (upd J p (.tup vs)) q = none) (hr : (upd (upd J p (.tup vs)) q (.tup us)) r = none) :
    Same J (upd (upd (upd J p (.tup vs)) q (.tup us)) r (.tup [.ref p, .ref q])) ∧ Dq K bad (upd (upd (upd J p (.tup vs)) q (.tup us)) r (.tup [.ref p, .ref q])) (.ref r) (.tuple [.tuple ds, .tuple es]) := by
  refine ⟨(same_upd hp).trans ((same_upd hq).trans (same_upd hr)), .tup (SqT.of upd_same) (.cons (.tup (SqT.of ?_) (hv _)) (.cons (.tup (SqT.of ?_) (hu _)) .nil))⟩
  · exact same_upd hr _ _ (same_upd hq _ _ upd_same)
  · exact same_upd hr _ _ upd_same
theorem DqAll.mem {K : PySem.W.Frag} {bad : List Addr} {H : Hp} : ∀ {vs : List V} {ds : List PyData} {v : V}, DqAll K bad H vs ds → v ∈ vs → ∃ d ∈ ds, Dq K bad H v d
  | _, _, _, .nil, h => nomatch h
  | _, _, _, .cons h r, hv => (List.mem_cons.mp hv).elim (fun e => ⟨_, List.mem_cons_self, e ▸ h⟩) fun hv => let ⟨d, h1, h2⟩ := r.mem hv; ⟨d, List.mem_cons_of_mem _ h1, h2⟩
theorem sh_int {i : Int} (h0 : -(10 ^ 40) ≤ i) (h1 : i ≤ 10 ^ 40) : ShQ (.int i) 700 0 := (Sh.int (small600 h0 h1)).q
theorem sh_flat {n : Nat} {ds : List PyData} (h : ∀ d ∈ ds, ShQ d n 0) (hl : ds.length ≤ 12) : ShQ (.tuple ds) (12 * n + 27) 1 := by
  refine (ShQ.tup h).mono ?_ (Nat.le_refl _)
  have := Nat.mul_le_mul_right n hl
  omega
theorem sh_one {ds : List PyData} (h : ∀ d ∈ ds, ShQ d 700 0) (hl : ds.length ≤ 12) : ShQ (.tuple [.tuple ds]) 400000 50 :=
  (ShQ.tup (n := 12 * 700 + 27) (k := 1) fun d hd => by rw [List.mem_singleton.mp hd]; exact sh_flat h hl).mono (by show 1 * (12 * 700 + 27) + 2 * 1 + 3 ≤ _; decide) (by decide)
theorem sh_lone {ds : List PyData} (h : ∀ d ∈ ds, ShQ d 700 0) (hl : ds.length ≤ 12) : ShQ (.tuple [.list ds]) 400000 50 :=
  (ShQ.tup (n := 12 * 700 + 27) (k := 1) fun d hd => by
    rw [List.mem_singleton.mp hd]
    refine (ShQ.list h).mono ?_ (Nat.le_refl _)
    have := Nat.mul_le_mul_right 700 hl
    omega).mono (by show 1 * (12 * 700 + 27) + 2 * 1 + 3 ≤ _; decide) (by decide)
/-- a tuple of one new list -/
theorem lone_at {K : PySem.W.Frag} {bad : List Addr} {J : Hp} {p q : Addr} {vs : List V} {ds : List PyData} (hv : ∀ H, DqAll K bad H vs ds) (hp : J p = none) (hb : p ∉ bad) (hq : (upd J p (.lst vs)) q = none) :
    Same J (upd (upd J p (.lst vs)) q (.tup [.ref p])) ∧ Dq K bad (upd (upd J p (.lst vs)) q (.tup [.ref p])) (.ref q) (.tuple [.list ds]) := by
  refine ⟨(same_upd hp).trans (same_upd hq), .tup (SqT.of upd_same) (.cons (.lst ?_ hb (hv _)) .nil)⟩
  exact same_upd hq _ _ upd_same
theorem Bag.out {K : PySem.W.Frag} {a L : Addr} {H0 H : Hp} {xs : List V} {m c : Nat} (g : Bag K a L H0 H xs m c) {p : Addr} (hp : H p = none) (hs : p ≠ sysModules) : p ∉ [sysModules, a, L] := fun z => by
  rcases List.mem_cons.mp z with z | z
  · exact hs z
  · exact g.ex p z hp
theorem tat_dq {α : Type} {K : PySem.W.Frag} {bad : List Addr} {H : Hp} {f : α → List V} {g : α → List PyData} (hf : ∀ x, DqAll K bad H (f x) (g x)) : ∀ (l : List α) (xs : List V), TAt H xs (l.map f) → DqAll K bad H xs (l.map fun x => .tuple (g x))
  | [], xs, h => by
    cases xs with
    | nil => exact .nil
    | cons x r => exact h.elim
  | y :: l, xs, h => by
    cases xs with
    | nil => exact h.elim
    | cons x r =>
      obtain ⟨⟨t, rfl, ht⟩, h2⟩ := h
      exact .cons (.tup (SqT.of ht) (hf y)) (tat_dq hf l r h2)
theorem shq_two {x y : PyData} (hx : ShQ x 700 0) (hy : ShQ y 700 0) : ShQ (.tuple [x, y]) 1407 1 :=
  (ShQ.tup (n := 700) (k := 0) fun d hd => by
    rcases List.mem_cons.mp hd with rfl | hd
    · exact hx
    · rw [List.mem_singleton.mp hd]
      exact hy).mono (by show 2 * 700 + 2 * 2 + 3 ≤ _; decide) (Nat.le_refl _)
theorem sh_steps {n : Nat} {ds : List PyData} (h : ∀ d ∈ ds, ShQ d 1407 1) (hl : ds.length ≤ n) : ShQ (.tuple ds) (n * 1409 + 3) 2 := by
  refine (ShQ.tup h).mono ?_ (Nat.le_refl _)
  have := Nat.mul_le_mul_right 1409 hl
  omega
theorem sh_stepsL {n : Nat} {ds : List PyData} (h : ∀ d ∈ ds, ShQ d 1407 1) (hl : ds.length ≤ n) : ShQ (.list ds) (n * 1409 + 3) 2 := by
  refine (ShQ.list h).mono ?_ (Nat.le_refl _)
  have := Nat.mul_le_mul_right 1409 hl
  omega
/-! SPLIT -/
abbrev s_law_due : Stmt := (top 45)
abbrev N_law_due : List Str := ["_law_lives_here", "_law_wish_here", "_law_value", "_law_one", "_law_age", "_law_time", "_law_gap_here", "_law_last", "_law_wished"]
theorem sc_law_due : FnScope N_law_due ["_law_lives_here", "_law_wish_here", "_law_value"] (defScope s_law_due) :=
  ⟨rfl, rfl, rfl, by decide +kernel, rfl, by decide +kernel, by decide +kernel⟩
theorem call_isiK {X : Cx} {K : PySem.W.Frag} (hK : X.K = K) : CallR X (.builtin "isinstance") (rIsi K) := by
  subst hK
  exact call_isi
def pairN : PyData → Option (Int × Int)
  | .tuple [.int b, .int t] => if 0 ≤ b ∧ 0 ≤ t then some (b, t) else none
  | _ => none
def brokenD (ls : List (Option Int)) (ws : List (Int × Int)) (d : PyData) : Bool := match pairN d with
  | none => false
  | some p => match stepAt ws p.1 with
    | none => false
    | some q => decide (p.1 ≤ p.2) && !leO (distO ls p.2 p.1) (some q.2)
theorem pairN_some {d : PyData} (h : pairD d = true) : ∃ a b : Int, d = .tuple [.int a, .int b] ∧ 0 ≤ a ∧ 0 ≤ b ∧ pairN d = some (a, b) := by
  obtain ⟨a, b, rfl, h1, h2⟩ := pairD_some h
  exact ⟨a, b, rfl, h1, h2, if_pos ⟨h1, h2⟩⟩
theorem pairN_none {d : PyData} (h : pairD d = false) : pairN d = none := by
  unfold pairN
  split
  · next b t =>
    by_cases c : 0 ≤ b ∧ 0 ≤ t
    · have h2 : (decide (0 ≤ b) && decide (0 ≤ t)) = false := h
      rw [decide_eq_true c.1, decide_eq_true c.2] at h2
      cases h2
    · rw [if_neg c]
  · rfl
theorem broken_none {ls : List (Option Int)} {ws : List (Int × Int)} {d : PyData} (h : pairD d = false) : brokenD ls ws d = false := by
  unfold brokenD
  rw [pairN_none h]
theorem broken_some {ls : List (Option Int)} {ws : List (Int × Int)} {b t : Int} (h1 : 0 ≤ b) (h2 : 0 ≤ t) : brokenD ls ws (.tuple [.int b, .int t]) = (match stepAt ws b with
    | none => false
    | some q => decide (b ≤ t) && !leO (distO ls t b) (some q.2)) := by
  unfold brokenD
  rw [show pairN (.tuple [.int b, .int t]) = some (b, t) from if_pos ⟨h1, h2⟩]
theorem broken_short {ls : List (Option Int)} (g : Good ls) (ws : List (Int × Int)) (d : PyData) : brokenD (short ls) ws d = brokenD ls ws d := by
  unfold brokenD
  cases e : pairN d with
  | none => rfl
  | some p =>
    have hp : 0 ≤ p.1 := by
      unfold pairN at e
      split at e
      · next b t =>
        by_cases c : 0 ≤ b ∧ 0 ≤ t
        · rw [if_pos c] at e
          cases e
          exact c.1
        · rw [if_neg c] at e
          cases e
      · cases e
    show (match stepAt ws p.1 with | none => false | some q => decide (p.1 ≤ p.2) && !leO (distO (short ls) p.2 p.1) (some q.2)) = (match stepAt ws p.1 with | none => false | some q => decide (p.1 ≤ p.2) && !leO (distO ls p.2 p.1) (some q.2))
    cases stepAt ws p.1 with
    | none => rfl
    | some q =>
      by_cases c : p.1 ≤ p.2
      · show (decide (p.1 ≤ p.2) && !leO (distO (short ls) p.2 p.1) (some q.2)) = _
        rw [distO_short g (by omega)]
      · show (decide (p.1 ≤ p.2) && _) = (decide (p.1 ≤ p.2) && _)
        rw [decide_eq_false c, Bool.false_and, Bool.false_and]
theorem step_none {ws : List (Int × Int)} {ql : Int × Int} {a : Int} (asc : ws.Pairwise fun p q => p.1 < q.1 ∧ p.2 < q.2) (hq : ws.getLast? = some ql) (h : ql.1 < a) : stepAt ws a = none := by
  unfold stepAt
  refine List.find?_eq_none.mpr fun p hp z => ?_
  have := last_ge asc hp hq
  have := of_decide_eq_true z
  omega
theorem step_ex {ws : List (Int × Int)} {p : Int × Int} {a : Int} (hp : p ∈ ws) (h : a ≤ p.1) : ∃ q, stepAt ws a = some q := by
  unfold stepAt
  cases e : ws.find? (fun p => decide (a ≤ p.1)) with
  | some q => exact ⟨q, rfl⟩
  | none => exact absurd (decide_eq_true h) (List.find?_eq_none.mp e p hp)
def spShowsA (K : PySem.W.Frag) (C : Addr) : Sp := fun vs H Q _ => ∃ (ex : List Addr) (r W : Addr) (v : V) (d : PyData) (ls : List (Option Int)) (xs : List V) (ws : List (Int × Int)), vs = [.ref r, .ref W, v] ∧ Dq K ex H v d ∧ RuleAt C H r ls ∧ ls.length ≤ 61 ∧ H W = some (.tup xs) ∧ TAt H xs (ws.map wV) ∧ WOk ws ∧
  ∀ H', Same H H' → Q (.bl (brokenD ls ws d)) H'
def spDueA (K : PySem.W.Frag) : Sp := fun vs H Q _ => ∃ (ex : List Addr) (S W : Addr) (v : V) (d : PyData) (ls : List (Option Int)) (xs : List V) (ws : List (Int × Int)), vs = [.ref S, .ref W, v] ∧ Dq K ex H v d ∧ H S = some (.tup (ls.map lv)) ∧ Good ls ∧ H W = some (.tup xs) ∧ TAt H xs (ws.map wV) ∧ WOk ws ∧
  ∀ H', Same H H' → Q (.bl (brokenD ls ws d)) H'
section
variable {P : Program} {w : World} {K : PySem.W.Frag} {mg : Str → Option Value} {base : Heap} {C : Addr}
theorem ok_showsA (D : Df K mg "shows_broken" s_shows_broken ["rule", "wish", "value"]) (C_is_pair : HasO P w K mg base 2 "is_pair" ["value"] (spPairQ K)) (C_distance : HasO P w K mg base 5 "distance" ["rule", "tick", "age"] (spDist C)) (C_at_most : HasO P w K mg base 1 "at_most" ["one", "other"] spAtMost) : HasO P w K mg base 6 "shows_broken" ["rule", "wish", "value"] (spShowsA K C) := by
  refine D.hasO sc_shows_broken (fun vs H Q E h => ?_) (fun f cdv A outer s H vs Q E hr h => ?_)
  · obtain ⟨ex, r, W, v, d, ls, xs, ws, rfl, _⟩ := h
    rfl
  · obtain ⟨ex, r, W, v, d, ls, xs, ws, rfl, hd, ra, hl, hW, ta, ok, k⟩ := h
    refine ⟨_, (pss_cons (ps_if (pt_not (pt_val (pe_hasO C_is_pair (hr.mono (by decide)) rfl (pa_cons (pv 2) pa_nil)))) (pss_one (ps_ret pe_bl)) pss_nil)
      (pss_cons (ps_asg (pv 2) (pg_tup rfl (pgs_cons (pg_name (i := 3) sc_shows_broken.nd rfl (Or.inr rfl)) (pgs_cons (pg_name (i := 4) sc_shows_broken.nd rfl (Or.inl rfl)) pgs_nil))))
      (pss_cons (ps_if (PW.pt (pw_or (pt_cmpR op_gt (pv 3) (pe_ix ix_tup (pe_ix ix_tup (pv 1) (pe_un un_neg pe_int) (fun _ _ => rfl)) pe_int (fun _ _ => rfl)) (nomark _)) (pw_or1 (pt_cmpR op_lt (pv 4) (pv 3) (nomark _))))) (pss_one (ps_ret pe_bl)) pss_nil)
      (pss_cons (ps_set (i := 5) sc_shows_broken.nd rfl (Or.inl rfl) (pe_ix ix_list (pe_lc (own := [("last", 6), ("limit", 7)]) (g := gTup _ 2 (gCons (gName 6) (gCons (gName 7) (gNil)))) rfl sc_shows_broken.nd (pi_tup (pv 1)) (blkOk_by (N := N_shows_broken) (sc := defScope s_shows_broken) (by decide +kernel)) (fun _ _ _ _ _ => pg_tup rfl (pgs_cons (pg_name (i := 6) sc_shows_broken.nd rfl (Or.inl rfl)) (pgs_cons (pg_name (i := 7) sc_shows_broken.nd rfl (Or.inl rfl)) pgs_nil))) (fun _ _ _ _ _ => (pts_one (pt_cmpR op_le (pv 3) (pv 6) (nomark _)))) (fun _ _ _ _ _ => (pv 7))) pe_int (fun _ _ => rfl)))
      (pss_one (ps_ret (pe_not (pe_hasO C_at_most (hr.mono (by decide)) rfl (pa_cons (pe_hasO C_distance (hr.mono (by decide)) rfl (pa_cons (pv 0) (pa_cons (pv 4) (pa_cons (pv 3) pa_nil)))) (pa_cons (pv 5) pa_nil)))))))))), ?_⟩
    obtain ⟨ini, tl, ql, rfl, hql, htl⟩ := wish_last ta ok.pos
    refine ⟨_, rfl, ex, v, d, rfl, hd, fun H1 s1 => ?_⟩
    refine ⟨_, rfl, ?_⟩
    have hd1 := hd.same s1
    by_cases c : pairD d = true
    · obtain ⟨b, t, rfl, b0, t0⟩ := pairD_some c
      refine ite2 (fun z => absurd z (by rw [c]; decide)) (fun _ => ?_)
      cases hd1 with
      | @tup p ys _ hp hall =>
        obtain ⟨x, y, d1, d2, rfl, e2, g1, g2⟩ := two_items hall hall.length
        obtain ⟨rfl, e3⟩ := List.cons.inj e2
        obtain ⟨rfl, _⟩ := List.cons.inj e3
        cases g1
        cases g2
        rw [broken_some b0 t0] at k
        have hW1 := s1 _ _ hW
        refine ⟨_, rfl, p, _, rfl, hp, rfl, _, _, rfl, _, _, rfl, rfl, ?_⟩
        refine ⟨_, rfl, _, rfl, _, rfl, W, _, _, _, rfl, rfl, SqT.of hW1, atI_last _ _, tl, _, _, _, rfl, rfl, SqT.of (s1 _ _ htl), rfl, _, _, rfl, rfl, _, rfl, ?_⟩
        by_cases c1 : ql.1 < b
        · refine ite2 (fun _ => ?_) (fun z => absurd (decide_eq_true c1) z)
          rw [step_none ok.asc hql c1] at k
          exact k _ s1
        obtain ⟨q, hq⟩ := step_ex (List.mem_of_getLast? hql) (show b ≤ ql.1 by omega)
        rw [hq] at k
        refine ite2 (fun z => absurd (of_decide_eq_true z) c1) (fun _ => ?_)
        refine ⟨_, rfl, _, rfl, _, _, rfl, rfl, _, rfl, ?_⟩
        by_cases c2 : t < b
        · refine ite2 (fun _ => ?_) (fun z => absurd (decide_eq_true c2) z)
          have q2 := k _ s1
          rw [decide_eq_false (by omega : ¬ b ≤ t)] at q2
          exact q2
        refine ite2 (fun z => absurd (of_decide_eq_true z) c2) (fun _ => ?_)
        have bt : b ≤ t := by omega
        rw [decide_eq_true bt] at k
        generalize ini ++ [V.ref tl] = xs at *
        refine ⟨_, rfl, W, rfl, ⟨_, SqT.of hW1⟩, fun D hD => lc_tup (xs := xs) (fun i H' => Same H1 H' ∧ H' D = some (.lst (((ws.take i).filter fun p => decide (b ≤ p.1)).map fun p => V.int p.2))) ⟨same_upd hD, upd_same⟩ (fun i H' _ z => SqT.of (z.1 _ _ hW1)) ?_ ?_⟩
        · rintro i x H2 hx ⟨s2, eD⟩
          obtain ⟨u, p2, rfl, hpi, hu⟩ := wV_get ta hx
          have et : ws.take (i + 1) = ws.take i ++ [p2] := by rw [List.take_add_one, hpi]; rfl
          have hil := (List.getElem?_eq_some_iff.mp hpi).1
          have hm := ok.most
          refine ⟨u, _, rfl, SqT.of (s2 _ _ (s1 _ _ hu)), rfl, _, _, rfl, _, _, rfl, rfl, rfl, ?_⟩
          refine ⟨_, rfl, _, rfl, _, _, rfl, rfl, _, rfl, ?_⟩
          refine ite2 (fun hc => ?_) (fun hc => ?_)
          · refine ⟨_, rfl, _, eD, small1000 (by rw [List.length_map]; have h2 := List.length_filter_le (fun p : Int × Int => decide (b ≤ p.1)) (ws.take i); rw [List.length_take] at h2; omega), fun b o z => ?_, ?_⟩
            · rw [upd_ne (ne_of_none z hD)]
              exact s2 b o z
            · rw [upd_same, et, List.filter_append, filter_yes (fun p : Int × Int => decide (b ≤ p.1)) hc, List.map_append]
              rfl
          · refine ⟨s2, ?_⟩
            rw [eD, et, List.filter_append, filter_no (fun p : Int × Int => decide (b ≤ p.1)) (by cases z : decide (b ≤ p2.1) with | true => exact absurd z hc | false => rfl), List.append_nil]
        rintro H2 ⟨s2, eD⟩
        have el : xs.length = ws.length := by rw [ta.length, List.length_map]
        rw [el, List.take_length] at eD
        have e0 : ((ws.filter fun p => decide (b ≤ p.1)).map fun p => V.int p.2)[0]? = some (V.int q.2) := by
          rw [List.getElem?_map, ← List.head?_eq_getElem?, List.head?_filter]
          have hq' : ws.find? (fun p => decide (b ≤ p.1)) = some q := hq
          rw [hq']
          rfl
        refine ⟨D, _, _, _, rfl, rfl, SqL.of eD, at_of (j := 0) rfl e0, ?_⟩
        refine ⟨_, rfl, _, rfl, _, rfl, r, t, b, ls, rfl, (ra.same s1).same s2, hl, fun H3 s3 => ?_⟩
        exact ⟨_, rfl, distO ls t b, some q.2, rfl, _, rfl, k _ (s1.trans (s2.trans s3))⟩
    · have c : pairD d = false := by cases z : pairD d with | true => exact absurd z c | false => rfl
      refine ite2 (fun _ => ?_) (fun z => absurd (by rw [c]; rfl) z)
      rw [broken_none c] at k
      exact k _ s1
theorem ok_dueA (D : Df K mg "_law_due" s_law_due ["_law_lives_here", "_law_wish_here", "_law_value"]) (T : Bl mg) (C_law_gap : Has P w K mg base 2 "_law_gap" ["_law_lives_here", "_law_time", "_law_age"] spGap) : Has P w K mg base 3 "_law_due" ["_law_lives_here", "_law_wish_here", "_law_value"] (spDueA K) := by
  refine D.has sc_law_due (fun vs H Q E h => ?_) (fun f cdv A outer s H vs Q E gd hr h => ?_)
  · obtain ⟨ex, S, W, v, d, ls, xs, ws, rfl, _⟩ := h
    rfl
  · obtain ⟨ex, S, W, v, d, ls, xs, ws, rfl, hd, hS, g, hW, ta, ok, k⟩ := h
    refine ⟨_, (pss_cons (ps_if (PW.pt (pw_or (pt_not (pt_val (pe_callB call_isi (by rfl) T.isinstance (by decide +kernel) (pa_cons (pv 2) (pa_cons (pe_bltn (v := .ty "tuple") (by rfl) T.tuple (by decide +kernel) rfl) pa_nil))))) (pw_or1 (pt_cmpR op_ne (pe_callB call_len_seq (by rfl) T.len PySem.boot_len (pa_cons (pv 2) pa_nil)) pe_int (nomark _))))) (pss_one (ps_ret pe_bl)) pss_nil)
      (pss_cons (ps_if (pt_not (pt_val (pe_callB (cr_all rfl) (by rfl) T.all (by decide +kernel) (pa_cons (pe_lc (own := [("_law_one", 3)]) (g := gName 3) (tt := tYes) rfl sc_law_due.nd (pi_tup (pv 2)) (blkOk_by (N := N_law_due) (sc := defScope s_law_due) (by decide +kernel)) (fun _ _ _ _ _ => pg_name (i := 3) sc_law_due.nd rfl (Or.inl rfl)) (fun _ _ _ _ _ => pts_nil) (fun _ _ _ _ _ => (pe_and (pe_callB (call_isiK (K := K) rfl) (by rfl) T.isinstance (by decide +kernel) (pa_cons (pv 3) (pa_cons (pe_bltn (v := .ty "int") (by rfl) T.int (by decide +kernel) rfl) pa_nil))) (pe_and (pe_not (pe_callB (call_isiK (K := K) rfl) (by rfl) T.isinstance (by decide +kernel) (pa_cons (pv 3) (pa_cons (pe_bltn (v := .ty "bool") (by rfl) T.bool (by decide +kernel) rfl) pa_nil)))) (pe_one (pe_cmpR op_ge (pv 3) pe_int (nomark _))))))) pa_nil)))) (pss_one (ps_ret pe_bl)) pss_nil)
      (pss_cons (ps_asg (pv 2) (pg_tup rfl (pgs_cons (pg_name (i := 4) sc_law_due.nd rfl (Or.inr rfl)) (pgs_cons (pg_name (i := 5) sc_law_due.nd rfl (Or.inl rfl)) pgs_nil))))
      (pss_cons (ps_if (PW.pt (pw_or (pt_cmpR op_gt (pv 4) (pe_ix ix_tup (pe_ix ix_tup (pv 1) (pe_un un_neg pe_int) (fun _ _ => rfl)) pe_int (fun _ _ => rfl)) (nomark _)) (pw_or1 (pt_cmpR op_lt (pv 5) (pv 4) (nomark _))))) (pss_one (ps_ret pe_bl)) pss_nil)
      (pss_cons (ps_set (i := 6) sc_law_due.nd rfl (Or.inl rfl) (pe_has C_law_gap gd (hr.mono (by decide)) rfl (pa_cons (pv 0) (pa_cons (pv 5) (pa_cons (pv 4) pa_nil)))))
      (pss_one (ps_ret (pe_or (pe_cmpR op_isN (pv 6) pe_non (nomark _)) (pe_one (pe_cmpR op_gt (pv 6) (pe_ix ix_list (pe_lc (own := [("_law_last", 7), ("_law_wished", 8)]) (g := gTup _ 2 (gCons (gName 7) (gCons (gName 8) (gNil)))) rfl sc_law_due.nd (pi_tup (pv 1)) (blkOk_by (N := N_law_due) (sc := defScope s_law_due) (by decide +kernel)) (fun _ _ _ _ _ => pg_tup rfl (pgs_cons (pg_name (i := 7) sc_law_due.nd rfl (Or.inl rfl)) (pgs_cons (pg_name (i := 8) sc_law_due.nd rfl (Or.inl rfl)) pgs_nil))) (fun _ _ _ _ _ => (pts_one (pt_cmpR op_le (pv 4) (pv 7) (nomark _)))) (fun _ _ _ _ _ => (pv 8))) pe_int (fun _ _ => rfl)) (nomark _))))))))))), ?_⟩
    obtain ⟨ini, tl, ql, rfl, hql, htl⟩ := wish_last ta ok.pos
    have bad : ∀ Hx, Same H Hx → pairD d = false → Q (.bl false) Hx := fun Hx sx e => by
      rw [broken_none e] at k
      exact k Hx sx
    cases hd with
    | @tup p ys ds hT hall =>
      refine ⟨_, rfl, _, _, _, _, true, rfl, .ty _, tyx_seqt hT, kit_ty (by decide +kernel), _, rfl, ?_⟩
      refine ite2 (fun z => absurd z (by decide)) (fun _ => ?_)
      refine ⟨_, rfl, p, _, rfl, .inr hT, rfl, _, rfl, ?_⟩
      by_cases c : ys.length = 2
      · refine ite2 (fun z => absurd z (by rw [c]; decide)) (fun _ => ?_)
        obtain ⟨x1, x2, d1, d2, rfl, rfl, g1, g2⟩ := two_items hall c
        refine ⟨_, rfl, p, rfl, ⟨_, hT⟩, fun D2 hD2 => lc_tup (xs := [x1, x2]) (fun i H' => Same H H' ∧ H' D2 = some (.lst ((([d1, d2].take i).map natD).map V.bl))) ⟨same_upd hD2, upd_same⟩ (fun i H' _ z => SqT.same z.1 hT) ?_ ?_⟩
        · rintro j y H3 hy ⟨s3, e3⟩
          have hj : j = 0 ∨ j = 1 := by
            have := (List.getElem?_eq_some_iff.mp hy).1
            have h2 : j < 2 := this
            omega
          obtain ⟨dj, hdj, hq⟩ : ∃ dj, [d1, d2][j]? = some dj ∧ Dq K ex H3 y dj := by
            rcases hj with rfl | rfl
            · cases hy
              exact ⟨d1, rfl, g1.same s3⟩
            · cases hy
              exact ⟨d2, rfl, g2.same s3⟩
          have fin : ∀ b, b = natD dj → ∃ acc, H3 D2 = some (.lst acc) ∧ acc.length < sizeLine ∧ (Same H (upd H3 D2 (.lst (acc ++ [V.bl b]))) ∧ (upd H3 D2 (.lst (acc ++ [V.bl b]))) D2 = some (.lst ((([d1, d2].take (j + 1)).map natD).map V.bl))) := by
            rintro b rfl
            refine ⟨_, e3, small1000 (by rw [List.length_map, List.length_map, List.length_take]; omega), fun b o z => ?_, ?_⟩
            · rw [upd_ne (ne_of_none z hD2)]
              exact s3 b o z
            · rw [upd_same, List.take_add_one, hdj, List.map_append, List.map_append]
              rfl
          cases hq with
          | int i =>
            refine ⟨rfl, _, rfl, _, _, _, _, true, rfl, .ty _, .base (.int i), kit_ty (by decide +kernel), true, rfl, ?_⟩
            refine iteT ?_
            refine ⟨_, rfl, _, _, _, _, false, rfl, .ty _, .base (.int i), kit_ty (by decide +kernel), false, rfl, true, rfl, ?_⟩
            refine iteT ?_
            exact ⟨_, rfl, _, _, rfl, rfl, fin _ rfl⟩
          | bl b =>
            refine ⟨rfl, _, rfl, _, _, _, _, true, rfl, .ty _, .base (.bl b), kit_ty (by decide +kernel), true, rfl, ?_⟩
            refine iteT ?_
            exact ⟨_, rfl, _, _, _, _, true, rfl, .ty _, .base (.bl b), kit_ty (by decide +kernel), true, rfl, false, rfl, iteF (fin _ rfl)⟩
          | non => exact ⟨rfl, _, rfl, _, _, _, _, false, rfl, .ty _, .base .non, kit_ty (by decide +kernel), false, rfl, iteF (fin _ rfl)⟩
          | str x => exact ⟨rfl, _, rfl, _, _, _, _, false, rfl, .ty _, .base (.str x), kit_ty (by decide +kernel), false, rfl, iteF (fin _ rfl)⟩
          | lst e n a => exact ⟨rfl, _, rfl, _, _, _, _, false, rfl, .ty _, .base (.lst e), kit_ty (by decide +kernel), false, rfl, iteF (fin _ rfl)⟩
          | tup e a => exact ⟨rfl, _, rfl, _, _, _, _, false, rfl, .ty _, tyx_seqt e, kit_ty (by decide +kernel), false, rfl, iteF (fin _ rfl)⟩
          | dct e n a => exact ⟨rfl, _, rfl, _, _, _, _, false, rfl, .ty _, .base (.dK e), kit_ty (by decide +kernel), false, rfl, iteF (fin _ rfl)⟩
        rintro H3 ⟨s3, e3⟩
        refine ⟨D2, [natD d1, natD d2], rfl, SqL.of e3, _, rfl, ?_⟩
        have ea : [natD d1, natD d2].all _root_.id = pairD (.tuple [d1, d2]) := by
          show (natD d1 && (natD d2 && true)) = (natD d1 && natD d2)
          rw [Bool.and_true]
        rw [ea]
        by_cases cp : pairD (.tuple [d1, d2]) = true
        · refine ite2 (fun z => absurd z (by rw [cp]; decide)) (fun _ => ?_)
          obtain ⟨b, t, e2, b0, t0⟩ := pairD_some cp
          obtain ⟨rfl, e3'⟩ := List.cons.inj (PyData.tuple.inj e2)
          obtain ⟨rfl, _⟩ := List.cons.inj e3'
          cases g1
          cases g2
          rw [broken_some b0 t0] at k
          have hT3 := SqT.same s3 hT
          have hW1 := s3 _ _ hW
          refine ⟨_, rfl, p, _, rfl, hT3, rfl, _, _, rfl, _, _, rfl, rfl, ?_⟩
          refine ⟨_, rfl, _, rfl, _, rfl, W, _, _, _, rfl, rfl, SqT.of hW1, atI_last _ _, tl, _, _, _, rfl, rfl, SqT.of (s3 _ _ htl), rfl, _, _, rfl, rfl, _, rfl, ?_⟩
          by_cases c1 : ql.1 < b
          · refine ite2 (fun _ => ?_) (fun z => absurd (decide_eq_true c1) z)
            rw [step_none ok.asc hql c1] at k
            exact k _ s3
          obtain ⟨q, hq⟩ := step_ex (List.mem_of_getLast? hql) (show b ≤ ql.1 by omega)
          rw [hq] at k
          refine ite2 (fun z => absurd (of_decide_eq_true z) c1) (fun _ => ?_)
          refine ⟨_, rfl, _, rfl, _, _, rfl, rfl, _, rfl, ?_⟩
          by_cases c2 : t < b
          · refine ite2 (fun _ => ?_) (fun z => absurd (decide_eq_true c2) z)
            have q2 := k _ s3
            rw [decide_eq_false (by omega : ¬ b ≤ t)] at q2
            exact q2
          refine ite2 (fun z => absurd (of_decide_eq_true z) c2) (fun _ => ?_)
          have bt : b ≤ t := by omega
          rw [decide_eq_true bt] at k
          generalize ini ++ [V.ref tl] = xs at *
          refine ⟨_, rfl, _, rfl, _, rfl, S, t, b, ls, rfl, s3 _ _ hS, g, b0, bt, fun H4 s4 => ?_⟩
          have hW1 := s4 _ _ hW1
          have s34 := s3.trans s4
          cases ed : distO ls t b with
          | none =>
            rw [ed] at k
            refine ⟨_, rfl, rfl, true, rfl, iteT ?_⟩
            exact k _ s34
          | some gp =>
            rw [ed] at k
            refine ⟨_, rfl, rfl, false, rfl, iteF ?_⟩
            refine ⟨_, rfl, ?_⟩
            refine ⟨_, rfl, W, rfl, ⟨_, SqT.of hW1⟩, fun D hD => lc_tup (xs := xs) (fun i H' => Same H4 H' ∧ H' D = some (.lst (((ws.take i).filter fun p => decide (b ≤ p.1)).map fun p => V.int p.2))) ⟨same_upd hD, upd_same⟩ (fun i H' _ z => SqT.of (z.1 _ _ hW1)) ?_ ?_⟩
            · rintro i x H2 hx ⟨s2, eD⟩
              obtain ⟨u, p2, rfl, hpi, hu⟩ := wV_get ta hx
              have et : ws.take (i + 1) = ws.take i ++ [p2] := by rw [List.take_add_one, hpi]; rfl
              have hil := (List.getElem?_eq_some_iff.mp hpi).1
              have hm := ok.most
              refine ⟨u, _, rfl, SqT.of (s2 _ _ (s34 _ _ hu)), rfl, _, _, rfl, _, _, rfl, rfl, rfl, ?_⟩
              refine ⟨_, rfl, _, rfl, _, _, rfl, rfl, _, rfl, ?_⟩
              refine ite2 (fun hc => ?_) (fun hc => ?_)
              · refine ⟨_, rfl, _, eD, small1000 (by rw [List.length_map]; have h2 := List.length_filter_le (fun p : Int × Int => decide (b ≤ p.1)) (ws.take i); rw [List.length_take] at h2; omega), fun b o z => ?_, ?_⟩
                · rw [upd_ne (ne_of_none z hD)]
                  exact s2 b o z
                · rw [upd_same, et, List.filter_append, filter_yes (fun p : Int × Int => decide (b ≤ p.1)) hc, List.map_append]
                  rfl
              · refine ⟨s2, ?_⟩
                rw [eD, et, List.filter_append, filter_no (fun p : Int × Int => decide (b ≤ p.1)) (by cases z : decide (b ≤ p2.1) with | true => exact absurd z hc | false => rfl), List.append_nil]
            rintro H2 ⟨s2, eD⟩
            have el : xs.length = ws.length := by rw [ta.length, List.length_map]
            rw [el, List.take_length] at eD
            have e0 : ((ws.filter fun p => decide (b ≤ p.1)).map fun p => V.int p.2)[0]? = some (V.int q.2) := by
              rw [List.getElem?_map, ← List.head?_eq_getElem?, List.head?_filter]
              have hq' : ws.find? (fun p => decide (b ≤ p.1)) = some q := hq
              rw [hq']
              rfl
            refine ⟨D, _, _, _, rfl, rfl, SqL.of eD, at_of (j := 0) rfl e0, ?_⟩
            refine ⟨_, _, rfl, rfl, ?_⟩
            have q2 := k _ (s34.trans s2)
            have e5 : (true && !leO (some gp) (some q.2)) = decide (q.2 < gp) := by
              show (!decide (gp ≤ q.2)) = decide (q.2 < gp)
              by_cases z : gp ≤ q.2
              · rw [decide_eq_true z, decide_eq_false (by omega)]; rfl
              · rw [decide_eq_false z, decide_eq_true (by omega)]; rfl
            have q3 : Q (.bl (true && !leO (some gp) (some q.2))) H2 := q2
            rw [e5] at q3
            exact q3
        · have c : pairD (.tuple [d1, d2]) = false := by cases z : pairD (.tuple [d1, d2]) with | true => exact absurd z cp | false => rfl
          refine ite2 (fun _ => bad H3 s3 c) (fun z => absurd (by rw [c]; rfl) z)
      · have hl2 := hall.length
        refine ite2 (fun _ => bad H (Same.refl _) (pairD_len (by omega))) (fun z => absurd ?_ z)
        show (!decide (V.int ((ys.length : Nat) : Int) = V.int 2)) = true
        rw [decide_eq_false (fun w => by injection w with w; omega)]
        rfl
    | int i => exact ⟨_, rfl, _, _, _, _, false, rfl, .ty _, .base (.int i), kit_ty (by decide +kernel), _, rfl, ite2 (fun _ => bad H (Same.refl _) rfl) (fun z => absurd rfl z)⟩
    | bl b => exact ⟨_, rfl, _, _, _, _, false, rfl, .ty _, .base (.bl b), kit_ty (by decide +kernel), _, rfl, ite2 (fun _ => bad H (Same.refl _) rfl) (fun z => absurd rfl z)⟩
    | non => exact ⟨_, rfl, _, _, _, _, false, rfl, .ty _, .base .non, kit_ty (by decide +kernel), _, rfl, ite2 (fun _ => bad H (Same.refl _) rfl) (fun z => absurd rfl z)⟩
    | str x => exact ⟨_, rfl, _, _, _, _, false, rfl, .ty _, .base (.str x), kit_ty (by decide +kernel), _, rfl, ite2 (fun _ => bad H (Same.refl _) rfl) (fun z => absurd rfl z)⟩
    | lst e n a => exact ⟨_, rfl, _, _, _, _, false, rfl, .ty _, .base (.lst e), kit_ty (by decide +kernel), _, rfl, ite2 (fun _ => bad H (Same.refl _) rfl) (fun z => absurd rfl z)⟩
    | dct e n a => exact ⟨_, rfl, _, _, _, _, false, rfl, .ty _, .base (.dK e), kit_ty (by decide +kernel), _, rfl, ite2 (fun _ => bad H (Same.refl _) rfl) (fun z => absurd rfl z)⟩
end
/-! SPLIT -/
abbrev s_law_great_right : Stmt := (top 46)
abbrev N_law_great_right : List Str := ["_law_pot_here", "_law_lives_here", "_law_rule", "_law_wish_here", "_law_turn", "_law_last", "_law_size", "_law_age", "_law_near", "_law_time"]
theorem sc_law_great_right : FnScope N_law_great_right ["_law_pot_here"] (defScope s_law_great_right) :=
  ⟨rfl, rfl, rfl, by decide +kernel, rfl, by decide +kernel, by decide +kernel⟩
theorem gN_int {i : Nat} {z : Int} {σ : L2.St} {H : Hp} {k : L2.St → Hp → Prop} (h : ∀ y : Int, gName i (.int y) σ H k) : gName i (.int z) σ H k := h z
theorem gN_intE {i : Nat} {z : Int} {σ : L2.St} {H : Hp} {k : L2.St → Hp → Prop} (h : ∀ y : Int, y = z → gName i (.int y) σ H k) : gName i (.int z) σ H k := h z rfl
theorem ne_self (v : V) : ¬ (!decide (v = v)) = true := by simp
structure Wd (C a S W r : Addr) (ls : List (Option Int)) (xs : List V) (ws : List (Int × Int)) (H0 H : Hp) (m : Nat) : Prop where
  pot : PotAt H a m
  but : But a H0 H
  eS : H S = some (.tup (ls.map lv))
  ra : RuleAt C H r (short ls)
  eW : H W = some (.tup xs)
  ta : TAt H xs (ws.map wV)
theorem Wd.step {C a S W r : Addr} {ls : List (Option Int)} {xs : List V} {ws : List (Int × Int)} {H0 H H' : Hp} {m m' : Nat} (g : Wd C a S W r ls xs ws H0 H m) (b : But a H H') (p : PotAt H' a m') : Wd C a S W r ls xs ws H0 H' m' :=
  ⟨p, g.but.trans b, b _ _ g.eS (g.pot.ne_tup g.eS), g.ra.but g.pot b, b _ _ g.eW (g.pot.ne_tup g.eW), g.ta.keep fun t ys e => b t _ e (g.pot.ne_tup e)⟩
theorem Wd.same {C a S W r : Addr} {ls : List (Option Int)} {xs : List V} {ws : List (Int × Int)} {H0 H H' : Hp} {m : Nat} (g : Wd C a S W r ls xs ws H0 H m) (s : Same H H') : Wd C a S W r ls xs ws H0 H' m := g.step (But.of s) (g.pot.same s)
def spGreat : Sp := fun vs H Q _ => ∃ a : Addr, vs = [.ref a] ∧ PotAt H a 0 ∧ ∀ H', But a H H' → Q (.bl true) H'
section
variable {P : Program} {w : World} {K : PySem.W.Frag} {mg : Str → Option Value} {base : Heap} {C CR : Addr} {mc : Value} {fInit pAre fAre pOf fOf : Addr} {fdAre : FuncData}
theorem ok_great (D : Df K mg "_law_great_right" s_law_great_right ["_law_pot_here"]) (T : Bl mg) (R : RuleT K mg C CR mc fInit pAre fAre fdAre) (MOf : ClX.CMet K C mc "of" pOf fOf) (G_of : FnR P w K mg base CX0 5 fOf (spOf K C))
    (C_law_take : Has P w K mg base 1 "_law_take" ["_law_pot_here", "_law_many"] spTake) (C_law_of : Has P w K mg base 2 "_law_of" ["_law_pot_here", "_law_some"] (spPick K)) (C_law_ofT : Has P w K mg base 2 "_law_of" ["_law_pot_here", "_law_some"] (spPickT K)) (C_law_two : Has P w K mg base 1 "_law_two" ["_law_index_here"] spTwo) (C_law_lives : Has P w K mg base 3 "_law_lives" ["_law_pot_here", "_law_many", "_law_great"] spLives) (C_law_ended : Has P w K mg base 2 "_law_ended" ["_law_pot_here", "_law_lives_here"] spEnded)
    (C_law_wish : Has P w K mg base 3 "_law_wish" ["_law_pot_here", "_law_many", "_law_great", "_law_far"] spWish) (C_law_index : Has P w K mg base 2 "_law_index" ["_law_lives_here", "_law_age"] (spIndex K)) (C_shows_broken : HasO P w K mg base 6 "shows_broken" ["rule", "wish", "value"] (spShowsA K C)) (C_law_due : Has P w K mg base 3 "_law_due" ["_law_lives_here", "_law_wish_here", "_law_value"] (spDueA K)) : Has P w K mg base 7 "_law_great_right" ["_law_pot_here"] spGreat := by
  refine D.has sc_law_great_right (fun vs H Q E h => ?_) (fun f cdv A outer s H vs Q E gd hr h => ?_)
  · obtain ⟨a, rfl, _⟩ := h
    rfl
  · obtain ⟨a, rfl, hp, k⟩ := h
    refine ⟨_, (pss_cons (ps_set (i := 1) sc_law_great_right.nd rfl (Or.inl rfl) (pe_has C_law_ended gd (hr.mono (by decide)) rfl (pa_cons (pv 0) (pa_cons (pe_has C_law_lives gd (hr.mono (by decide)) rfl (pa_cons (pv 0) (pa_cons (pe_has C_law_of gd (hr.mono (by decide)) rfl (pa_cons (pv 0) (pa_cons (pe_lst (pa_cons pe_int (pa_cons pe_int (pa_cons pe_int pa_nil)))) pa_nil))) (pa_cons (pe_has C_law_of gd (hr.mono (by decide)) rfl (pa_cons (pv 0) (pa_cons (pe_lst (pa_cons (pe_op op_pow pe_int pe_int) (pa_cons (pe_op op_pow pe_int pe_int) pa_nil))) pa_nil))) pa_nil)))) pa_nil))))
      (pss_cons (ps_par (i := 2) (j := 3) rfl sc_law_great_right.nd rfl rfl (by decide) rfl rfl (pa_cons (ClX.pe_cmeth (pe_glob (v := .ref C) rfl R.m_Rule rfl) R.rd MOf G_of (hr.mono (by decide)) pass0 (pa_cons (pv 1) pa_nil)) (pa_cons (pe_has C_law_wish gd (hr.mono (by decide)) rfl (pa_cons (pv 0) (pa_cons pe_int (pa_cons (pe_op op_pow pe_int pe_int) (pa_cons (pe_has C_law_of gd (hr.mono (by decide)) rfl (pa_cons (pv 0) (pa_cons (pe_lst (pa_cons (pe_op op_pow pe_int pe_int) (pa_cons pe_int (pa_cons pe_int pa_nil)))) pa_nil))) pa_nil))))) pa_nil)) (by rfl))
      (pss_cons (ps_for PassesOwn.never rfl (pi_range1 rfl T.range (pa_cons pe_int pa_nil)) (pg_name (i := 4) sc_law_great_right.nd rfl (Or.inl rfl)) (pss_cons (ps_par (i := 5) (j := 6) rfl sc_law_great_right.nd rfl rfl (by decide) rfl rfl (pa_cons (pe_ix ix_tup (pe_has C_law_ofT gd (hr.mono (by decide)) rfl (pa_cons (pv 0) (pa_cons (pv 3) pa_nil))) pe_int (fun _ _ => rfl)) (pa_cons (pe_has C_law_two gd (hr.mono (by decide)) rfl (pa_cons (pe_has C_law_take gd (hr.mono (by decide)) rfl (pa_cons (pv 0) (pa_cons pe_int pa_nil))) pa_nil)) pa_nil)) (by rfl))
      (pss_cons (ps_set (i := 7) sc_law_great_right.nd rfl (Or.inl rfl) (pe_callB (call_min2 rfl) (by rfl) T.min (by decide +kernel) (pa_cons (pe_ix ix_tup (pe_ix ix_tup (pv 3) (pe_un un_neg pe_int) (fun _ _ => rfl)) pe_int (fun _ _ => rfl)) (pa_cons (pe_callB (call_max2 rfl) (by rfl) T.max (by decide +kernel) (pa_cons pe_int (pa_cons (pe_op op_add (pv 5) (pe_has C_law_of gd (hr.mono (by decide)) rfl (pa_cons (pv 0) (pa_cons (pe_lst (pa_cons (pe_un un_neg pe_int) (pa_cons pe_int (pa_cons pe_int (pa_cons pe_int (pa_cons (pe_has C_law_take gd (hr.mono (by decide)) rfl (pa_cons (pv 0) (pa_cons (pe_op op_pow pe_int pe_int) pa_nil))) pa_nil)))))) pa_nil)))) pa_nil))) pa_nil))))
      (pss_cons (ps_set (i := 8) sc_law_great_right.nd rfl (Or.inl rfl) (pe_has C_law_index gd (hr.mono (by decide)) rfl (pa_cons (pv 1) (pa_cons (pv 7) pa_nil))))
      (pss_cons (ps_set (i := 6) sc_law_great_right.nd rfl (Or.inl rfl) (pe_ifExp (pt_cmpR op_isN (pv 8) pe_non (nomark _)) (pv 6) (pe_has C_law_two gd (hr.mono (by decide)) rfl (pa_cons (pv 8) pa_nil))))
      (pss_one (ps_for PassesOwn.never rfl (pi_tup (pe_tup (pa_cons (pv 7) (pa_cons (pe_op op_add (pv 7) pe_int) (pa_cons (pe_op op_sub (pe_op op_add (pv 7) (pv 6)) pe_int) (pa_cons (pe_op op_add (pv 7) (pv 6)) (pa_cons (pe_op op_sub (pe_op op_add (pv 7) (pe_op op_mul pe_int (pv 6))) pe_int) (pa_cons (pe_op op_add (pv 7) (pe_has C_law_take gd (hr.mono (by decide)) rfl (pa_cons (pv 0) (pa_cons (pe_op op_pow pe_int pe_int) pa_nil)))) pa_nil)))))))) (pg_name (i := 9) sc_law_great_right.nd rfl (Or.inl rfl)) (pss_one (ps_if (pt_cmpR op_ne (pe_callB (call_reprD gd hr.units) (by rfl) T.repr (by decide +kernel) (pa_cons (pe_hasO C_shows_broken (hr.mono (by decide)) rfl (pa_cons (pv 2) (pa_cons (pv 3) (pa_cons (pe_tup (pa_cons (pv 7) (pa_cons (pv 9) pa_nil))) pa_nil)))) pa_nil)) (pe_callB (call_reprD gd hr.units) (by rfl) T.repr (by decide +kernel) (pa_cons (pe_has C_law_due gd (hr.mono (by decide)) rfl (pa_cons (pv 1) (pa_cons (pv 3) (pa_cons (pe_tup (pa_cons (pv 7) (pa_cons (pv 9) pa_nil))) pa_nil)))) pa_nil)) (nomark _)) (pss_one (ps_ret pe_bl)) pss_nil)))))))))
      (pss_one (ps_ret pe_bl))))), ?_⟩
    refine ⟨_, rfl, _, rfl, _, rfl, by show 3 ≤ sizeLine; decide, fun N hN => ?_⟩
    refine ⟨a, N, _, _, rfl, hp.same (same_upd hN), by omega, SqL.of upd_same, (hp.ne hN).symm, by show 0 < 3; decide, by show 3 ≤ 1000; decide, fun v H1 hv p1 b1 => ?_⟩
    obtain ⟨m, rfl, m0, m1⟩ : ∃ m : Nat, v = .int (m : Nat) ∧ 1 ≤ m ∧ m ≤ 61 := by
      rcases List.mem_cons.mp hv with rfl | hv
      · exact ⟨61, rfl, by decide, by decide⟩
      rcases List.mem_cons.mp hv with rfl | hv
      · exact ⟨20, rfl, by decide, by decide⟩
      rcases List.mem_cons.mp hv with rfl | hv
      · exact ⟨8, rfl, by decide, by decide⟩
      · exact nomatch hv
    have b01 : But a H H1 := (But.of (same_upd hN)).trans b1
    refine ⟨_, rfl, _, _, rfl, rfl, ⟨by decide, by decide, by decide⟩, _, _, rfl, rfl, ⟨by decide, by decide, by decide⟩, by show 2 ≤ sizeLine; decide, fun M hM => ?_⟩
    refine ⟨a, M, _, _, rfl, p1.same (same_upd hM), by omega, SqL.of upd_same, (p1.ne hM).symm, by show 0 < 2; decide, by show 2 ≤ 1000; decide, fun v H2 hv p2 b2 => ?_⟩
    obtain ⟨gr, rfl, gr0, gr1⟩ : ∃ z : Int, v = .int z ∧ 0 ≤ z ∧ z ≤ 10 ^ 17 := by
      rcases List.mem_cons.mp hv with rfl | hv
      · exact ⟨_, rfl, by decide, by decide⟩
      · rw [List.mem_singleton.mp hv]
        exact ⟨_, rfl, by decide, by decide⟩
    have b02 := b01.trans ((But.of (same_upd hM)).trans b2)
    refine ⟨a, _, m, gr, rfl, p2, by omega, m0, m1, gr0, by omega, fun t is H3 nt et li as bs p3 b3 => ?_⟩
    refine ⟨a, t, _, is, rfl, p3, by omega, et, by omega, by omega, as, bs, fun S ls H4 eS g ll p4 b4 => ?_⟩
    have b04 := b02.trans (b3.trans b4)
    refine ⟨rfl, _, rfl, S, ls, rfl, SqT.of eS, g, fun r H5 s5 ra => ?_⟩
    have p5 := p4.same s5
    refine ⟨_, rfl, _, _, rfl, rfl, ⟨by decide, by decide, by decide⟩, _, rfl, _, _, rfl, rfl, ⟨by decide, by decide, by decide⟩, by show 3 ≤ sizeLine; decide, fun M2 hM2 => ?_⟩
    refine ⟨a, M2, _, _, rfl, p5.same (same_upd hM2), by omega, SqL.of upd_same, (p5.ne hM2).symm, by show 0 < 3; decide, by show 3 ≤ 1000; decide, fun v H6 hv p6 b6 => ?_⟩
    obtain ⟨fa, rfl, fa0, fa1⟩ : ∃ z : Int, v = .int z ∧ 0 ≤ z ∧ z ≤ 10 ^ 17 := by
      rcases List.mem_cons.mp hv with rfl | hv
      · exact ⟨_, rfl, by decide, by decide⟩
      rcases List.mem_cons.mp hv with rfl | hv
      · exact ⟨_, rfl, by decide, by decide⟩
      · rw [List.mem_singleton.mp hv]
        exact ⟨_, rfl, by decide, by decide⟩
    have b46 : But a H4 H6 := (But.of (s5.trans (same_upd hM2))).trans b6
    have b56 : But a H5 H6 := (But.of (same_upd hM2)).trans b6
    have eS6 := b46 _ _ eS (p4.ne_tup eS)
    have ra6 := ra.but p5 b56
    refine ⟨a, _, 12, _, fa, rfl, p6, by omega, by decide, by decide, by decide, by decide, fa0, fa1, fun W xs ws H7 eW ta ok wl _ p7 b7 => ?_⟩
    have wd : Wd C a S W r ls xs ws H H7 400 := ⟨p7.mono (by omega), b04.trans (b46.trans b7), b7 _ _ eS6 (p6.ne_tup eS6), ra6.but p6 b7, eW, ta⟩
    have xl : xs.length = ws.length := by rw [ta.length, List.length_map]
    have wpos := ok.pos
    have w12 := ok.most
    have hl61 := g.most
    have hls : (short ls).length ≤ 61 := (good_short g).most
    clear eS eS6 ra ra6 eW ta p1 p2 p3 p4 p5 p6 p7 b01 b02 b04 b46 b56 b7 b6 b4 b3 b2 b1 et
    refine ⟨_, _, rfl, ?_⟩
    refine to_st (σ' := [some (.ref a), some (.ref S), some (.ref r), some (.ref W), none, none, none, none, none, none]) rfl ?_
    refine ⟨16, rfl, by decide, by decide, for_range (n := 16) (fun i σ H' => ∃ v4 v5 v6 v7 v8 v9, σ = [some (.ref a), some (.ref S), some (.ref r), some (.ref W), v4, v5, v6, v7, v8, v9] ∧ Wd C a S W r ls xs ws H H' (400 + 10 * i)) ⟨none, none, none, none, none, none, rfl, wd⟩ ?_ ?_⟩
    · rintro i σ J hi ⟨v4, v5, v6, v7, v8, v9, rfl, wd⟩
      refine gN_st (σ' := [some (.ref a), some (.ref S), some (.ref r), some (.ref W), some (.int (0 + (i : Nat))), v5, v6, v7, v8, v9]) rfl ?_
      refine ⟨_, rfl, _, rfl, a, W, _, xs, rfl, wd.pot, by omega, wd.eW, by omega, by omega, fun v J1 hv p1 b1 => ?_⟩
      have wd := wd.step b1 p1
      obtain ⟨ix, hix⟩ := List.mem_iff_getElem?.mp hv
      obtain ⟨u, q, rfl, hq, hu⟩ := wV_get wd.ta hix
      refine ⟨u, _, _, _, rfl, rfl, SqT.of hu, at_of (j := 0) rfl rfl, ?_⟩
      refine ⟨_, rfl, a, _, 60, rfl, wd.pot, by omega, by decide, by decide, fun z J2 z0 z1 p2 b2 => ?_⟩
      have wd := wd.step b2 p2
      obtain ⟨zn, rfl⟩ := Int.eq_ofNat_of_zero_le z0
      refine ⟨zn, rfl, by omega, ?_⟩
      refine ⟨_, _, rfl, ?_⟩
      refine to_st (σ' := [some (.ref a), some (.ref S), some (.ref r), some (.ref W), some (.int (0 + (i : Nat))), some (.int q.1), some (.int (2 ^ zn)), v7, v8, v9]) rfl ?_
      obtain ⟨ini, tl, ql, exs, hql, htl⟩ := wish_last wd.ta ok.pos
      have hat : atI xs (-1) = some (V.ref tl) := by rw [exs]; exact atI_last _ _
      refine ⟨_, rfl, _, rfl, W, _, _, _, rfl, rfl, SqT.of wd.eW, hat, tl, _, _, _, rfl, rfl, SqT.of htl, rfl, ?_⟩
      refine ⟨_, rfl, _, rfl, _, rfl, _, rfl, _, _, rfl, rfl, ⟨by decide, by decide, by decide⟩, a, _, _, rfl, wd.pot, by omega, by decide, by decide, fun d J3 d0 d1 p3 b3 => ?_⟩
      have wd := wd.step b3 p3
      refine ⟨by show 5 ≤ sizeLine; decide, fun M3 hM3 => ?_⟩
      have wd := wd.same (same_upd (o := .lst [V.int (-1), .int 0, .int 0, .int 1, .int d]) hM3)
      refine ⟨a, M3, _, _, rfl, wd.pot, by omega, SqL.of upd_same, (p3.ne hM3).symm, by show 0 < 5; decide, by show 5 ≤ 1000; decide, fun v J4 hv p4 b4 => ?_⟩
      have wd := wd.step b4 p4
      obtain ⟨ev, rfl⟩ : ∃ z : Int, v = .int z := by
        rcases List.mem_cons.mp hv with rfl | hv
        · exact ⟨_, rfl⟩
        rcases List.mem_cons.mp hv with rfl | hv
        · exact ⟨_, rfl⟩
        rcases List.mem_cons.mp hv with rfl | hv
        · exact ⟨_, rfl⟩
        rcases List.mem_cons.mp hv with rfl | hv
        · exact ⟨_, rfl⟩
        · rw [List.mem_singleton.mp hv]
          exact ⟨_, rfl⟩
      refine ⟨_, _, rfl, rfl, _, _, rfl, _, _, rfl, ?_⟩
      refine gN_int fun age => ?_
      refine gN_st (σ' := [some (.ref a), some (.ref S), some (.ref r), some (.ref W), some (.int (0 + (i : Nat))), some (.int q.1), some (.int (2 ^ zn)), some (.int age), v8, v9]) rfl ?_
      refine ⟨_, rfl, _, rfl, S, ls, age, rfl, SqT.of wd.eS, by omega, fun J5 s5 => ?_⟩
      have wd := wd.same s5
      cases ei : idx 0 ls age with
      | none =>
        refine gN_st (σ' := [some (.ref a), some (.ref S), some (.ref r), some (.ref W), some (.int (0 + (i : Nat))), some (.int q.1), some (.int (2 ^ zn)), some (.int age), some .non, v9]) rfl ?_
        refine ⟨_, rfl, rfl, _, rfl, ?_⟩
        refine ite2 (fun _ => ?_) (fun z => absurd rfl z)
        refine ⟨_, rfl, ?_⟩
        refine gN_int fun sz => ?_
        refine gN_st (σ' := [some (.ref a), some (.ref S), some (.ref r), some (.ref W), some (.int (0 + (i : Nat))), some (.int q.1), some (.int sz), some (.int age), some .non, v9]) rfl ?_
        refine ⟨_, rfl, _, rfl, _, _, rfl, rfl, _, rfl, _, rfl, _, _, rfl, rfl, _, _, rfl, rfl, _, rfl, _, rfl, _, _, rfl, rfl, _, rfl, _, rfl, _, _, rfl, rfl, .inl ⟨by decide, by decide⟩, _, _, rfl, rfl, _, _, rfl, rfl, _, rfl, _, rfl, _, _, rfl, rfl, ⟨by decide, by decide, by decide⟩, a, _, _, rfl, wd.pot, by omega, by decide, by decide, fun d J6 d0 d1 p6 b6 => ?_⟩
        have wd := wd.step b6 p6
        refine ⟨_, _, rfl, rfl, by show 6 ≤ sizeLine; decide, fun tt htt => ?_⟩
        have wd := wd.same (same_upd (o := .tup [V.int age, .int (age + 1), .int (age + sz - 1), .int (age + sz), .int (age + 2 * sz - 1), .int (age + d)]) htt)
        have ett := upd_same (H := J6) (a := tt) (o := .tup [V.int age, .int (age + 1), .int (age + sz - 1), .int (age + sz), .int (age + 2 * sz - 1), .int (age + d)])
        refine ⟨tt, rfl, ⟨_, SqT.of ett⟩, for_tup (xs := [V.int age, .int (age + 1), .int (age + sz - 1), .int (age + sz), .int (age + 2 * sz - 1), .int (age + d)]) (fun jj σ H' => Same (upd J6 tt (.tup [V.int age, .int (age + 1), .int (age + sz - 1), .int (age + sz), .int (age + 2 * sz - 1), .int (age + d)])) H' ∧ ∃ v9, σ = [some (.ref a), some (.ref S), some (.ref r), some (.ref W), some (.int (0 + (i : Nat))), some (.int q.1), some (.int sz), some (.int age), some .non, v9]) ⟨Same.refl _, v9, rfl⟩ (fun j σ H' _ z => SqT.of (z.1 _ _ ett)) ?_ ?_⟩
        · rintro jj x σ JJ hx ⟨sj, v9, rfl⟩
          have wd := wd.same sj
          obtain ⟨time, rfl⟩ : ∃ z : Int, x = .int z := by
            have hm := List.mem_of_getElem? hx
            rcases List.mem_cons.mp hm with rfl | hm
            · exact ⟨_, rfl⟩
            rcases List.mem_cons.mp hm with rfl | hm
            · exact ⟨_, rfl⟩
            rcases List.mem_cons.mp hm with rfl | hm
            · exact ⟨_, rfl⟩
            rcases List.mem_cons.mp hm with rfl | hm
            · exact ⟨_, rfl⟩
            rcases List.mem_cons.mp hm with rfl | hm
            · exact ⟨_, rfl⟩
            · rw [List.mem_singleton.mp hm]
              exact ⟨_, rfl⟩
          refine gN_st (σ' := [some (.ref a), some (.ref S), some (.ref r), some (.ref W), some (.int (0 + (i : Nat))), some (.int q.1), some (.int sz), some (.int age), some .non, some (.int time)]) rfl ?_
          obtain ⟨b, hb⟩ : ∃ b, b = brokenD ls ws (.tuple [.int age, .int time]) := ⟨_, rfl⟩
          obtain ⟨r1, r2, r3, r4⟩ := (Sh.bl b).ok (by decide) (by decide)
          refine ⟨_, rfl, _, rfl, _, rfl, _, rfl, by show 2 ≤ sizeLine; decide, fun p hp => ?_⟩
          have u1 := same_upd (o := .tup [V.int age, .int time]) hp
          have g1 := upd_same (H := JJ) (a := p) (o := .tup [V.int age, .int time])
          have wd := wd.same u1
          generalize upd JJ p (.tup [V.int age, .int time]) = J7 at *
          refine ⟨[], r, W, .ref p, .tuple [.int age, .int time], short ls, xs, ws, rfl, .tup (SqT.of g1) (.cons (.int _) (.cons (.int _) .nil)), wd.ra, hls, wd.eW, wd.ta, ok, fun J8 s8 => ?_⟩
          rw [broken_short g, ← hb]
          have wd := wd.same s8
          refine ⟨_, .bool b, rfl, .bl b, r1, r2, r3, r4, _, rfl, _, rfl, _, rfl, _, rfl, by show 2 ≤ sizeLine; decide, fun p2 hp2 => ?_⟩
          have u2 := same_upd (o := .tup [V.int age, .int time]) hp2
          have g2 := upd_same (H := J8) (a := p2) (o := .tup [V.int age, .int time])
          have wd := wd.same u2
          generalize upd J8 p2 (.tup [V.int age, .int time]) = J9 at *
          refine ⟨[], S, W, .ref p2, .tuple [.int age, .int time], ls, xs, ws, rfl, .tup (SqT.of g2) (.cons (.int _) (.cons (.int _) .nil)), wd.eS, g, wd.eW, wd.ta, ok, fun K1 t1 => ?_⟩
          rw [← hb]
          refine ⟨_, .bool b, rfl, .bl b, r1, r2, r3, r4, rfl, _, rfl, ?_⟩
          refine ite2 (fun z => absurd z (ne_self _)) (fun _ => ?_)
          exact ⟨sj.trans (u1.trans (s8.trans (u2.trans t1))), _, rfl⟩
        · rintro σ JJ ⟨sj, v9, rfl⟩
          exact ⟨_, _, _, _, _, _, rfl, { wd.same sj with pot := (wd.same sj).pot.mono (by omega) }⟩
      | some j =>
        have hj := idx_lt _ _ _ ei
        refine gN_st (σ' := [some (.ref a), some (.ref S), some (.ref r), some (.ref W), some (.int (0 + (i : Nat))), some (.int q.1), some (.int (2 ^ zn)), some (.int age), some (.int (j : Nat)), v9]) rfl ?_
        refine ⟨_, rfl, rfl, _, rfl, ?_⟩
        refine ite2 (fun z => by have q := of_decide_eq_true z; cases q) (fun _ => ?_)
        refine ⟨_, rfl, j, rfl, by omega, ?_⟩
        refine gN_int fun sz => ?_
        refine gN_st (σ' := [some (.ref a), some (.ref S), some (.ref r), some (.ref W), some (.int (0 + (i : Nat))), some (.int q.1), some (.int sz), some (.int age), some (.int (j : Nat)), v9]) rfl ?_
        refine ⟨_, rfl, _, rfl, _, _, rfl, rfl, _, rfl, _, rfl, _, _, rfl, rfl, _, _, rfl, rfl, _, rfl, _, rfl, _, _, rfl, rfl, _, rfl, _, rfl, _, _, rfl, rfl, .inl ⟨by decide, by decide⟩, _, _, rfl, rfl, _, _, rfl, rfl, _, rfl, _, rfl, _, _, rfl, rfl, ⟨by decide, by decide, by decide⟩, a, _, _, rfl, wd.pot, by omega, by decide, by decide, fun d J6 d0 d1 p6 b6 => ?_⟩
        have wd := wd.step b6 p6
        refine ⟨_, _, rfl, rfl, by show 6 ≤ sizeLine; decide, fun tt htt => ?_⟩
        have wd := wd.same (same_upd (o := .tup [V.int age, .int (age + 1), .int (age + sz - 1), .int (age + sz), .int (age + 2 * sz - 1), .int (age + d)]) htt)
        have ett := upd_same (H := J6) (a := tt) (o := .tup [V.int age, .int (age + 1), .int (age + sz - 1), .int (age + sz), .int (age + 2 * sz - 1), .int (age + d)])
        refine ⟨tt, rfl, ⟨_, SqT.of ett⟩, for_tup (xs := [V.int age, .int (age + 1), .int (age + sz - 1), .int (age + sz), .int (age + 2 * sz - 1), .int (age + d)]) (fun jj σ H' => Same (upd J6 tt (.tup [V.int age, .int (age + 1), .int (age + sz - 1), .int (age + sz), .int (age + 2 * sz - 1), .int (age + d)])) H' ∧ ∃ v9, σ = [some (.ref a), some (.ref S), some (.ref r), some (.ref W), some (.int (0 + (i : Nat))), some (.int q.1), some (.int sz), some (.int age), some (.int (j : Nat)), v9]) ⟨Same.refl _, v9, rfl⟩ (fun j σ H' _ z => SqT.of (z.1 _ _ ett)) ?_ ?_⟩
        · rintro jj x σ JJ hx ⟨sj, v9, rfl⟩
          have wd := wd.same sj
          obtain ⟨time, rfl⟩ : ∃ z : Int, x = .int z := by
            have hm := List.mem_of_getElem? hx
            rcases List.mem_cons.mp hm with rfl | hm
            · exact ⟨_, rfl⟩
            rcases List.mem_cons.mp hm with rfl | hm
            · exact ⟨_, rfl⟩
            rcases List.mem_cons.mp hm with rfl | hm
            · exact ⟨_, rfl⟩
            rcases List.mem_cons.mp hm with rfl | hm
            · exact ⟨_, rfl⟩
            rcases List.mem_cons.mp hm with rfl | hm
            · exact ⟨_, rfl⟩
            · rw [List.mem_singleton.mp hm]
              exact ⟨_, rfl⟩
          refine gN_st (σ' := [some (.ref a), some (.ref S), some (.ref r), some (.ref W), some (.int (0 + (i : Nat))), some (.int q.1), some (.int sz), some (.int age), some (.int (j : Nat)), some (.int time)]) rfl ?_
          obtain ⟨b, hb⟩ : ∃ b, b = brokenD ls ws (.tuple [.int age, .int time]) := ⟨_, rfl⟩
          obtain ⟨r1, r2, r3, r4⟩ := (Sh.bl b).ok (by decide) (by decide)
          refine ⟨_, rfl, _, rfl, _, rfl, _, rfl, by show 2 ≤ sizeLine; decide, fun p hp => ?_⟩
          have u1 := same_upd (o := .tup [V.int age, .int time]) hp
          have g1 := upd_same (H := JJ) (a := p) (o := .tup [V.int age, .int time])
          have wd := wd.same u1
          generalize upd JJ p (.tup [V.int age, .int time]) = J7 at *
          refine ⟨[], r, W, .ref p, .tuple [.int age, .int time], short ls, xs, ws, rfl, .tup (SqT.of g1) (.cons (.int _) (.cons (.int _) .nil)), wd.ra, hls, wd.eW, wd.ta, ok, fun J8 s8 => ?_⟩
          rw [broken_short g, ← hb]
          have wd := wd.same s8
          refine ⟨_, .bool b, rfl, .bl b, r1, r2, r3, r4, _, rfl, _, rfl, _, rfl, _, rfl, by show 2 ≤ sizeLine; decide, fun p2 hp2 => ?_⟩
          have u2 := same_upd (o := .tup [V.int age, .int time]) hp2
          have g2 := upd_same (H := J8) (a := p2) (o := .tup [V.int age, .int time])
          have wd := wd.same u2
          generalize upd J8 p2 (.tup [V.int age, .int time]) = J9 at *
          refine ⟨[], S, W, .ref p2, .tuple [.int age, .int time], ls, xs, ws, rfl, .tup (SqT.of g2) (.cons (.int _) (.cons (.int _) .nil)), wd.eS, g, wd.eW, wd.ta, ok, fun K1 t1 => ?_⟩
          rw [← hb]
          refine ⟨_, .bool b, rfl, .bl b, r1, r2, r3, r4, rfl, _, rfl, ?_⟩
          refine ite2 (fun z => absurd z (ne_self _)) (fun _ => ?_)
          exact ⟨sj.trans (u1.trans (s8.trans (u2.trans t1))), _, rfl⟩
        · rintro σ JJ ⟨sj, v9, rfl⟩
          exact ⟨_, _, _, _, _, _, rfl, { wd.same sj with pot := (wd.same sj).pot.mono (by omega) }⟩
    · rintro σ J ⟨v4, v5, v6, v7, v8, v9, rfl, wd⟩
      exact k _ wd.but
end
/-! SPLIT -/
abbrev s_law_right : Stmt := (top 47)
abbrev N_law_right : List Str := ["_law_pot_here", "_law_lives_here", "_law_rule", "_law_wish_here", "_law_told", "_law_some", "_law_turn", "_law_age", "_law_time", "_law_value", "_law_before", "_law_due_here"]
theorem sc_law_right : FnScope N_law_right ["_law_pot_here"] (defScope s_law_right) :=
  ⟨rfl, rfl, rfl, by decide +kernel, rfl, by decide +kernel, by decide +kernel⟩
abbrev s_law : Stmt := (top 48)
abbrev N_law : List Str := ["_law_script", "_law_k", "_law_pot_here", "_law_turn"]
theorem sc_law : FnScope N_law ["_law_script"] (defScope s_law) :=
  ⟨rfl, rfl, rfl, by decide +kernel, rfl, by decide +kernel, by decide +kernel⟩
def spLaw (K : PySem.W.Frag) : Sp := fun vs H Q _ => ∃ (a : Addr) (ns : List Int), vs = [.ref a] ∧ SqL K H a (ns.map V.int) ∧ ns.length ≤ 63 ∧ ∀ H', Q (.bl true) H'
def spRight : Sp := fun vs H Q _ => ∃ (a : Addr) (n : Nat), vs = [.ref a] ∧ PotAt H a n ∧ n < 400000 ∧ ∀ H', PotAt H' a (n + 20000) → But a H H' → Q (.bl true) H'
section
variable {P : Program} {w : World} {K : PySem.W.Frag} {mg : Str → Option Value} {base : Heap}
theorem ok_law {kr : Nat} (hk : 1 ≤ kr) (D : Df K mg "law" s_law ["_law_script"]) (T : Bl mg) (C_law_pot : Has P w K mg base 1 "_law_pot" ["_law_script", "_law_k"] (spPot K)) (C_law_great_right : Has P w K mg base kr "_law_great_right" ["_law_pot_here"] spGreat) (C_law_right : Has P w K mg base kr "_law_right" ["_law_pot_here"] spRight) : Has P w K mg base (kr + 1) "law" ["_law_script"] (spLaw K) := by
  refine D.has sc_law (fun vs H Q E h => ?_) (fun f cdv A outer s H vs Q E gd hr0 h => ?_)
  · obtain ⟨a, ns, rfl, _⟩ := h
    rfl
  · obtain ⟨a, ns, rfl, hS, hl, k⟩ := h
    refine ⟨_, (pss_cons (ps_if (pt_not (pt_val (pe_has C_law_great_right gd hr0 rfl (pa_cons (pe_has C_law_pot gd (hr0.mono hk) rfl (pa_cons (pv 0) (pa_cons pe_int pa_nil))) pa_nil)))) (pss_one (ps_ret pe_bl)) pss_nil)
      (pss_cons (ps_for PassesOwn.never rfl (pi_range1 rfl T.range (pa_cons (pe_callB (call_max2 rfl) (by rfl) T.max (by decide +kernel) (pa_cons pe_int (pa_cons (pe_callB (call_min2 rfl) (by rfl) T.min (by decide +kernel) (pa_cons pe_int (pa_cons (pe_callB call_len_seq (by rfl) T.len PySem.boot_len (pa_cons (pv 0) pa_nil)) pa_nil))) pa_nil))) pa_nil)) (pg_name (i := 1) sc_law.nd rfl (Or.inl rfl)) (pss_cons (ps_set (i := 2) sc_law.nd rfl (Or.inr rfl) (pe_has C_law_pot gd (hr0.mono hk) rfl (pa_cons (pv 0) (pa_cons (pv 1) pa_nil))))
      (pss_one (ps_if (pt_not (pt_val (pe_callB (cr_all rfl) (by rfl) T.all (by decide +kernel) (pa_cons (pe_lc (own := [("_law_turn", 3)]) (g := gName 3) (tt := tYes) rfl sc_law.nd (pi_range1 rfl T.range (pa_cons pe_int pa_nil)) (blkOk_by (N := N_law) (sc := defScope s_law) (by decide +kernel)) (fun _ _ _ _ _ => pg_name (i := 3) sc_law.nd rfl (Or.inl rfl)) (fun _ _ _ _ _ => pts_nil) (fun _ _ _ _ _ => (pe_has C_law_right gd hr0 rfl (pa_cons (pv 2) pa_nil)))) pa_nil)))) (pss_one (ps_ret pe_bl)) pss_nil))))
      (pss_one (ps_ret pe_bl)))), ?_⟩
    refine ⟨_, rfl, a, ns, 0, rfl, hS, hl, by omega, fun p0 H0 np0 s0 p0' => ⟨p0, rfl, p0', fun H00 b00 => ⟨_, rfl, iteF ?_⟩⟩⟩
    have sm0 : Same H H00 := fun b o z => b00 b o (s0 b o z) (ne_of_none z np0)
    have hS := sm0.seq hS
    obtain ⟨n, en, hn⟩ := three_of (ns.map V.int).length
    refine ⟨_, rfl, _, _, rfl, .inl hS, _, _, rfl, _, _, rfl, (n : Int), congrArg (fun z => [V.int z]) en, by omega, by omega, ?_⟩
    refine for_range (n := n) (fun i σ H' => Same H00 H' ∧ ∃ v1 v2 v3, σ = [some (.ref a), v1, v2, v3]) ⟨Same.refl _, none, none, none, rfl⟩ ?_ ?_
    · rintro i σ H1 hi ⟨sm, v1, v2, v3, rfl⟩
      refine ⟨_, rfl, _, rfl, a, ns, i, by rw [Int.zero_add]; rfl, sm.seq hS, hl, by omega, fun p H3 np s3 p3 => ?_⟩
      refine ⟨5, rfl, by decide, by decide, fun D2 hD2 => lc_range (lo := 0) (n := 5) (fun j HX => HX D2 = some (.lst (List.replicate j (.bl true))) ∧ But p H3 HX ∧ PotAt HX p (20000 * j)) ⟨upd_same, But.of (same_upd hD2), p3.same (same_upd hD2)⟩ ?_ ?_⟩
      · rintro j H2 hj ⟨e2, b2, p2⟩
        refine ⟨rfl, _, rfl, p, _, rfl, p2, by omega, fun H4 p4 b4 => ?_⟩
        have nD : D2 ≠ p := (p3.ne hD2).symm
        refine ⟨_, b4 _ _ e2 nD, small1000 (by rw [List.length_replicate]; omega), by rw [upd_same, List.replicate_succ'], fun b o z ne => ?_, (p4.upd nD.symm).mono (by omega)⟩
        rw [upd_ne (ne_of_none z hD2)]
        exact b4 b o (b2 b o z ne) ne
      · rintro H2 ⟨e2, b2, _⟩
        refine ⟨D2, List.replicate 5 true, rfl, SqL.of (by rw [e2, List.map_replicate]), _, rfl, ?_⟩
        refine ite2 (fun z => absurd z (by decide)) (fun _ => ?_)
        refine ⟨fun b o z => ?_, _, _, _, rfl⟩
        have z1 := sm b o z
        exact b2 b o (s3 b o z1) (ne_of_none z1 np)
    · rintro σ H1 ⟨sm, v1, v2, v3, rfl⟩
      exact k _
end
theorem wt_bd {ls : List (Option Int)} (hl : ls.length ≤ 61) {b : Int} (hb : 0 ≤ b) : b ≤ wtO ls b ∧ wtO ls b ≤ b + 2 ^ 61 := by
  unfold wtO
  cases e : idx 0 ls b with
  | none =>
    have p := pow2_pos (ls.length - 1)
    have p2 := pow2_le (show ls.length - 1 ≤ 61 by omega)
    constructor
    · show b ≤ b + (2 ^ (ls.length - 1) - 1)
      omega
    · show b + (2 ^ (ls.length - 1) - 1) ≤ b + 2 ^ 61
      omega
  | some j =>
    have hj := idx_lt _ _ _ e
    have p := pow2_pos j
    have p2 := pow2_le (show j ≤ 61 by omega)
    constructor
    · show b ≤ b + (2 ^ j - 1)
      omega
    · show b + (2 ^ j - 1) ≤ b + 2 ^ 61
      omega
theorem seq_par {i j : Nat} {ta : TA} {u : TS} {D : Ends} {σ : L2.St} {H : Hp} (h : ta σ H fun vs H1 => ∃ v w, vs = [v, w] ∧ u D ((σ.set i (some v)).set j (some w)) H1) : tSeq (tPar i j ta) u D σ H := h
theorem tc_first {C r W : Addr} {ls : List (Option Int)} {xs : List V} {ws : List (Int × Int)} {H : Hp} {tr : TA} {σ : L2.St} {Q : List V → Hp → Prop} {i j : Nat} (hi : σ[i]? = some (some (.ref r))) (hj : σ[j]? = some (some (.ref W))) (ra : RuleAt C H r ls) (h0 : 0 < ls.length) (hl : ls.length ≤ 61) (hW : H W = some (.tup xs)) (ta : TAt H xs (ws.map wV))
    (k : ∀ v H', Same H H' → ((v = .non ∧ fbL ls ws = none) ∨ ∃ b t, v = .ref t ∧ fbL ls ws = some b ∧ H' t = some (.tup [.int b, .int (wtO ls b)])) → tr σ H' fun xs H2 => Q (v :: xs) H2) : tCons (tCall (spFirst C) [] E0 (tCons (tVar i) (tCons (tVar j) tNil))) tr σ H Q :=
  ⟨_, hi, _, hj, r, W, ls, xs, ws, rfl, ra, h0, hl, hW, ta, fun e H' s => k _ _ s (.inl ⟨rfl, e⟩), fun b hb t H' s e => k _ _ s (.inr ⟨b, t, rfl, hb, e⟩)⟩
/-- the bag, and what stands beside it -/
structure Rt (K : PySem.W.Frag) (C a L S W r : Addr) (ls : List (Option Int)) (xs : List V) (ws : List (Int × Int)) (H0 H : Hp) (X : List V) (m c : Nat) : Prop where
  g : Bag K a L H0 H X m c
  eS : H S = some (.tup (ls.map lv))
  ra : RuleAt C H r (short ls)
  eW : H W = some (.tup xs)
  ta : TAt H xs (ws.map wV)
section
variable {K : PySem.W.Frag} {C a L S W r : Addr} {ls : List (Option Int)} {xs : List V} {ws : List (Int × Int)} {H0 H H' : Hp} {X : List V} {m c m' c' : Nat}
theorem Rt.step (g : Rt K C a L S W r ls xs ws H0 H X m c) (b : But a H H') (p : PotAt H' a m') : Rt K C a L S W r ls xs ws H0 H' X m' c :=
  ⟨g.g.step b p, b _ _ g.eS (g.g.pot.ne_tup g.eS), g.ra.but g.g.pot b, b _ _ g.eW (g.g.pot.ne_tup g.eW), g.ta.keep fun t ys e => b t _ e (g.g.pot.ne_tup e)⟩
theorem Rt.same (g : Rt K C a L S W r ls xs ws H0 H X m c) (s : Same H H') : Rt K C a L S W r ls xs ws H0 H' X m c := g.step (But.of s) (g.g.pot.same s)
theorem Rt.mono (g : Rt K C a L S W r ls xs ws H0 H X m c) (h : m ≤ m') (h2 : c ≤ c') : Rt K C a L S W r ls xs ws H0 H X m' c' := ⟨g.g.mono h h2, g.eS, g.ra, g.eW, g.ta⟩
theorem Rt.add (g : Rt K C a L S W r ls xs ws H0 H X m c) (ys : List V) (h : ∀ y ∈ ys, ∃ d, Dq K [sysModules, a, L] H y d ∧ ShQ d 400000 50) (hc : c + ys.length ≤ c') : Rt K C a L S W r ls xs ws H0 (upd H L (.lst (X ++ ys))) (X ++ ys) m c' := by
  refine ⟨g.g.add ys h hc, ?_, ?_, ?_, g.ta.upd g.g.here⟩
  · rw [upd_ne (ne_of g.eS g.g.here (by intro z; cases z))]
    exact g.eS
  · obtain ⟨dx, t, h1, h2⟩ := g.ra
    exact ⟨dx, t, by rw [upd_ne (ne_of h1 g.g.here (by intro z; cases z))]; exact h1, by rw [upd_ne (ne_of h2 g.g.here (by intro z; cases z))]; exact h2⟩
  · rw [upd_ne (ne_of g.eW g.g.here (by intro z; cases z))]
    exact g.eW
end
section
variable {P : Program} {w : World} {K : PySem.W.Frag} {mg : Str → Option Value} {base : Heap} {C CR : Addr} {mc : Value} {fInit pAre fAre pOf fOf : Addr} {fdAre : FuncData}
theorem ok_right (D : Df K mg "_law_right" s_law_right ["_law_pot_here"]) (T : Bl mg) (R : RuleT K mg C CR mc fInit pAre fAre fdAre) (MOf : ClX.CMet K C mc "of" pOf fOf) (G_of : FnR P w K mg base CX0 5 fOf (spOf K C))
    (C_law_take : Has P w K mg base 1 "_law_take" ["_law_pot_here", "_law_many"] spTake) (C_law_of : Has P w K mg base 2 "_law_of" ["_law_pot_here", "_law_some"] (spPick K)) (C_law_lives : Has P w K mg base 3 "_law_lives" ["_law_pot_here", "_law_many", "_law_great"] spLives) (C_law_ended : Has P w K mg base 2 "_law_ended" ["_law_pot_here", "_law_lives_here"] spEnded)
    (C_law_wish : Has P w K mg base 3 "_law_wish" ["_law_pot_here", "_law_many", "_law_great", "_law_far"] spWish) (C_law_odd : Has P w K mg base 3 "_law_odd" ["_law_pot_here"] (spOdd K)) (C_law_bent : Has P w K mg base 7 "_law_bent" ["_law_pot_here", "_law_value"] (spBent K 3)) (C_first_broken : HasO P w K mg base 5 "first_broken" ["rule", "wish"] (spFirst C)) (C_shows_broken : HasO P w K mg base 6 "shows_broken" ["rule", "wish", "value"] (spShowsA K C)) (C_law_due : Has P w K mg base 3 "_law_due" ["_law_lives_here", "_law_wish_here", "_law_value"] (spDueA K)) : Has P w K mg base 8 "_law_right" ["_law_pot_here"] spRight := by
  refine D.has sc_law_right (fun vs H Q E h => ?_) (fun f cdv A outer s H vs Q E gd hr h => ?_)
  · obtain ⟨a, n, rfl, _⟩ := h
    rfl
  · obtain ⟨a, n, rfl, hp, hn, k⟩ := h
    refine ⟨_, (pss_cons (ps_set (i := 1) sc_law_right.nd rfl (Or.inl rfl) (pe_has C_law_ended gd (hr.mono (by decide)) rfl (pa_cons (pv 0) (pa_cons (pe_has C_law_lives gd (hr.mono (by decide)) rfl (pa_cons (pv 0) (pa_cons (pe_op op_add pe_int (pe_has C_law_take gd (hr.mono (by decide)) rfl (pa_cons (pv 0) (pa_cons pe_int pa_nil)))) (pa_cons pe_int pa_nil)))) pa_nil))))
      (pss_cons (ps_par (i := 2) (j := 3) rfl sc_law_right.nd rfl rfl (by decide) rfl rfl (pa_cons (ClX.pe_cmeth (pe_glob (v := .ref C) rfl R.m_Rule rfl) R.rd MOf G_of (hr.mono (by decide)) pass0 (pa_cons (pv 1) pa_nil)) (pa_cons (pe_has C_law_wish gd (hr.mono (by decide)) rfl (pa_cons (pv 0) (pa_cons (pe_op op_add pe_int (pe_has C_law_take gd (hr.mono (by decide)) rfl (pa_cons (pv 0) (pa_cons pe_int pa_nil)))) (pa_cons pe_int (pa_cons pe_int pa_nil))))) pa_nil)) (by rfl))
      (pss_cons (ps_par (i := 4) (j := 5) rfl sc_law_right.nd rfl rfl (by decide) rfl rfl (pa_cons (pe_hasO C_first_broken (hr.mono (by decide)) rfl (pa_cons (pv 2) (pa_cons (pv 3) pa_nil))) (pa_cons (pe_lst (pa_cons pe_non (pa_cons (pe_tup pa_nil) (pa_cons pe_int (pa_cons pe_str (pa_cons (pe_lstX pa_nil) (pa_cons pe_dnewX (pa_cons (pe_tup (pa_cons pe_int pa_nil)) (pa_cons (pe_tup (pa_cons pe_int (pa_cons pe_int (pa_cons pe_int pa_nil)))) (pa_cons (pe_tup (pa_cons pe_bl (pa_cons pe_int pa_nil))) (pa_cons (pe_tup (pa_cons pe_int (pa_cons pe_str pa_nil))) pa_nil))))))))))) pa_nil)) (by rfl))
      (pss_cons (ps_expr (pe_bm PySem.F.plainAttrs_list PySem.F.slot_list_append PySem.F.type_list_append mt_append (pv 5) (pa_cons (pe_has C_law_odd gd (hr.mono (by decide)) rfl (pa_cons (pv 0) pa_nil)) pa_nil)))
      (pss_cons (ps_for PassesOwn.never rfl (pi_range1 rfl T.range (pa_cons pe_int pa_nil)) (pg_name (i := 6) sc_law_right.nd rfl (Or.inl rfl)) (pss_cons (ps_set (i := 7) sc_law_right.nd rfl (Or.inl rfl) (pe_has C_law_take gd (hr.mono (by decide)) rfl (pa_cons (pv 0) (pa_cons (pe_op op_add (pe_ix ix_tup (pe_ix ix_tup (pv 3) (pe_un un_neg pe_int) (fun _ _ => rfl)) pe_int (fun _ _ => rfl)) pe_int) pa_nil))))
      (pss_cons (ps_set (i := 8) sc_law_right.nd rfl (Or.inl rfl) (pe_op op_add (pe_op op_sub (pv 7) pe_int) (pe_has C_law_take gd (hr.mono (by decide)) rfl (pa_cons (pv 0) (pa_cons pe_int pa_nil)))))
      (pss_one (ps_expr (pe_bm PySem.F.plainAttrs_list PySem.F.slot_list_extend PySem.F.type_list_extend mt_extend (pv 5) (pa_cons (pe_lst (pa_cons (pe_tup (pa_cons (pv 7) (pa_cons (pv 8) pa_nil))) (pa_cons (pe_lstX (pa_cons (pv 7) (pa_cons (pv 8) pa_nil))) (pa_cons (pe_tup (pa_cons (pe_op op_sub (pe_un un_neg pe_int) (pv 7)) (pa_cons (pv 8) pa_nil))) (pa_cons (pe_tup (pa_cons (pv 7) (pa_cons (pe_op op_add (pv 8) (pe_op op_mul (pe_op op_pow pe_int pe_int) (pe_has C_law_take gd (hr.mono (by decide)) rfl (pa_cons (pv 0) (pa_cons pe_int pa_nil))))) pa_nil))) pa_nil))))) pa_nil)))))))
      (pss_cons (ps_for PassesOwn.never rfl (pi_range1 rfl T.range (pa_cons (pe_op op_mul pe_int (pe_callTy call_int1 (by rfl) T.int (by decide +kernel) (pa_cons (pe_cmpR op_notN (pv 4) pe_non (nomark _)) pa_nil))) pa_nil)) (pg_name (i := 6) sc_law_right.nd rfl (Or.inl rfl)) (pss_cons (ps_set (i := 9) sc_law_right.nd rfl (Or.inl rfl) (pe_has C_law_bent gd (hr.mono (by omega)) rfl (pa_cons (pv 0) (pa_cons (pv 4) pa_nil))))
      (pss_one (ps_expr (pe_bm PySem.F.plainAttrs_list PySem.F.slot_list_extend PySem.F.type_list_extend mt_extend (pv 5) (pa_cons (pe_lst (pa_cons (pv 4) (pa_cons (pv 9) (pa_cons (pe_has C_law_bent gd (hr.mono (by omega)) rfl (pa_cons (pv 0) (pa_cons (pv 9) pa_nil))) pa_nil)))) pa_nil))))))
      (pss_cons (ps_for PassesOwn.never rfl (pi_list (pv 5)) (pg_name (i := 9) sc_law_right.nd rfl (Or.inl rfl)) (pss_cons (ps_par (i := 10) (j := 11) rfl sc_law_right.nd rfl rfl (by decide) rfl rfl (pa_cons (pe_callB (call_reprQ gd hr.units) (by rfl) T.repr (by decide +kernel) (pa_cons (pv 9) pa_nil)) (pa_cons (pe_has C_law_due gd (hr.mono (by decide)) rfl (pa_cons (pv 1) (pa_cons (pv 3) (pa_cons (pv 9) pa_nil)))) pa_nil)) (by rfl))
      (pss_one (ps_if (PW.pt (pw_or (pt_cmpR op_ne (pe_callB (call_reprD gd hr.units) (by rfl) T.repr (by decide +kernel) (pa_cons (pe_hasO C_shows_broken (hr.mono (by decide)) rfl (pa_cons (pv 2) (pa_cons (pv 3) (pa_cons (pv 9) pa_nil)))) pa_nil)) (pe_callB (call_reprD gd hr.units) (by rfl) T.repr (by decide +kernel) (pa_cons (pv 11) pa_nil)) (nomark _)) (pw_or1 (pt_cmpR op_ne (pe_callB (call_reprQ gd hr.units) (by rfl) T.repr (by decide +kernel) (pa_cons (pv 9) pa_nil)) (pv 10) (nomark _))))) (pss_one (ps_ret pe_bl)) pss_nil))))
      (pss_one (ps_ret pe_bl))))))))), ?_⟩
    refine ⟨_, rfl, _, rfl, _, rfl, a, _, 5, rfl, hp, by omega, by decide, by decide, fun d H1 d0 d1 p1 b1 => ?_⟩
    obtain ⟨dn, rfl⟩ := Int.eq_ofNat_of_zero_le d0
    refine ⟨_, _, rfl, rfl, a, _, dn + 1, 10, congrArg (fun z => [V.ref a, V.int z, V.int 10]) (by omega : (1 : Int) + (dn : Nat) = ((dn + 1 : Nat) : Int)), p1, by omega, by omega, by omega, by decide, by decide, fun t is H3 nt et li as bs p3 b3 => ?_⟩
    refine ⟨a, t, _, is, rfl, p3, by omega, et, by omega, by omega, as, bs, fun S ls H4 eS g ll p4 b4 => ?_⟩
    have b04 := b1.trans (b3.trans b4)
    refine ⟨rfl, _, rfl, S, ls, rfl, SqT.of eS, g, fun r H5 s5 ra => ?_⟩
    have p5 := p4.same s5
    refine ⟨_, rfl, _, rfl, a, _, 4, rfl, p5, by omega, by decide, by decide, fun e H6 e0 e1 p6 b6 => ?_⟩
    obtain ⟨en, rfl⟩ := Int.eq_ofNat_of_zero_le e0
    have b46 : But a H4 H6 := (But.of s5).trans b6
    have eS6 := b46 _ _ eS (p4.ne_tup eS)
    have ra6 := ra.but p5 b6
    refine ⟨_, _, rfl, rfl, a, _, en + 1, 8, 6, congrArg (fun z => [V.ref a, V.int z, V.int 8, V.int 6]) (by omega : (1 : Int) + (en : Nat) = ((en + 1 : Nat) : Int)), p6, by omega, by omega, by omega, by decide, by decide, by decide, by decide, fun W xs ws H7 eW ta ok wl wb p7 b7 => ?_⟩
    have wd : Wd C a S W r ls xs ws H H7 (n + 400) := ⟨p7.mono (by omega), b04.trans (b46.trans b7), b7 _ _ eS6 (p6.ne_tup eS6), ra6.but p6 b7, eW, ta⟩
    have xl : xs.length = ws.length := by rw [ta.length, List.length_map]
    have wpos := ok.pos
    have w12 := ok.most
    have hl61 := g.most
    have hls : (short ls).length ≤ 61 := (good_short g).most
    have sp0 := (good_short g).pos
    clear eS eS6 ra ra6 eW ta p1 p3 p4 p5 p6 p7 b04 b46 b7 b6 b4 b3 b1 et
    refine ⟨_, _, rfl, ?_⟩
    refine to_st (σ' := [some (.ref a), some (.ref S), some (.ref r), some (.ref W), none, none, none, none, none, none, none, none]) rfl ?_
    dsimp only
    refine seq_par ?_
    refine tc_first rfl rfl wd.ra sp0 hls wd.eW wd.ta fun tv J1 t1 htv => ?_
    have wd := wd.same t1
    obtain ⟨dT, hT, hTb⟩ : ∃ dT, (∀ bad, Dq K bad J1 tv dT) ∧ (tv = .non ∨ (tv ≠ .non ∧ ∃ b t : Int, dT = .tuple [.int b, .int t] ∧ 0 ≤ b ∧ b ≤ 10 ^ 18 ∧ 0 ≤ t ∧ t ≤ 10 ^ 19)) := by
      rcases htv with ⟨rfl, _⟩ | ⟨b, t, rfl, hb, et⟩
      · exact ⟨_, fun _ => .non, .inl rfl⟩
      · obtain ⟨b0, ⟨q, hq, bq, _⟩, _⟩ := fb_some (ls := short ls) ws b (fun p hp => ⟨(ok.bd p hp).1, (ok.bd p hp).2.2.1⟩) ok.asc hb
        have q18 := ok.bd q (List.mem_of_find?_eq_some hq)
        have w1 := wt_bd hls b0
        exact ⟨_, fun _ => .tup (SqT.of et) (.cons (.int _) (.cons (.int _) .nil)), .inr ⟨(by intro z; cases z), b, _, rfl, b0, by omega, by omega, by omega⟩⟩
    have hT := hT [sysModules, a]
    clear htv
    refine ⟨Nat.zero_le _, fun e1 he1 => ⟨Nat.zero_le _, fun l2 hl2 ns2 => fun d3 hd3 ns3 => ?_⟩⟩
    have ol2 : l2 ∉ [sysModules, a] := fun z => by
      rcases List.mem_cons.mp z with z | z
      · exact ns2 z
      · exact (wd.pot.same (same_upd he1)).ne hl2 (List.mem_singleton.mp z).symm
    have od3 : d3 ∉ [sysModules, a] := fun z => by
      rcases List.mem_cons.mp z with z | z
      · exact ns3 z
      · exact ((wd.pot.same (same_upd he1)).same (same_upd hl2)).ne hd3 (List.mem_singleton.mp z).symm
    have hA : DqAll K [sysModules, a] (upd (upd (upd J1 e1 (.tup [])) l2 (.lst [])) d3 (.dK [])) [V.non, .ref e1, .int 0, .str "", .ref l2, .ref d3] [.none, .tuple [], .int 0, .str "", .list [], .dict []] :=
      .cons .non (.cons (.tup (SqT.of (same_upd hd3 _ _ (same_upd hl2 _ _ upd_same))) .nil) (.cons (.int 0) (.cons (.str "") (.cons (.lst (same_upd hd3 _ _ upd_same) ol2 .nil) (.cons (.dct upd_same od3 .nil) .nil)))))
    have sA : Same J1 _ := (same_upd he1).trans ((same_upd hl2).trans (same_upd (o := .dK []) hd3))
    generalize upd (upd (upd J1 e1 (.tup [])) l2 (.lst [])) d3 (.dK []) = J2 at *
    have flatN : ∀ (ns : List Int) (H : Hp), DqAll K [sysModules, a] H (ns.map V.int) (ns.map PyData.int) := fun ns H => DqAll.intro ns fun x _ => .int x
    refine ⟨by show 1 ≤ sizeLine; decide, fun p4 hp4 => ?_⟩
    have s4 := same_upd (o := .tup [V.int 0]) hp4
    have hA := (hA.same s4).app (.cons (.tup (SqT.of upd_same) (.cons (.int 0) .nil)) .nil)
    have sA := sA.trans s4
    generalize upd J2 p4 (.tup [V.int 0]) = J4 at *
    refine ⟨by show 3 ≤ sizeLine; decide, fun p5 hp5 => ?_⟩
    have s5 := same_upd (o := .tup [V.int 0, .int 0, .int 0]) hp5
    have hA := (hA.same s5).app (.cons (.tup (SqT.of upd_same) (.cons (.int 0) (.cons (.int 0) (.cons (.int 0) .nil)))) .nil)
    have sA := sA.trans s5
    generalize upd J4 p5 (.tup [V.int 0, .int 0, .int 0]) = J5 at *
    refine ⟨by show 2 ≤ sizeLine; decide, fun p6 hp6 => ?_⟩
    have s6 := same_upd (o := .tup [V.bl true, .int 1]) hp6
    have hA := (hA.same s6).app (.cons (.tup (SqT.of upd_same) (.cons (.bl true) (.cons (.int 1) .nil))) .nil)
    have sA := sA.trans s6
    generalize upd J5 p6 (.tup [V.bl true, .int 1]) = J6 at *
    refine ⟨by show 2 ≤ sizeLine; decide, fun p7 hp7 => ?_⟩
    have s7 := same_upd (o := .tup [V.int 0, .str "1"]) hp7
    have hA := (hA.same s7).app (.cons (.tup (SqT.of upd_same) (.cons (.int 0) (.cons (.str "1") .nil))) .nil)
    have sA := sA.trans s7
    generalize upd J6 p7 (.tup [V.int 0, .str "1"]) = J7 at *
    refine ⟨by show 10 ≤ sizeLine; decide, fun L hL => ?_⟩
    have wd := wd.same sA
    have hT := hT.same sA
    have nL : L ≠ a := (wd.pot.ne hL).symm
    have HL : H L = none := by
      cases e : H L with
      | none => rfl
      | some o => rw [wd.but _ _ e nL] at hL; cases hL
    have i0 : ∀ i : Int, i = 0 ∨ i = 1 → ShQ (.int i) 700 0 := fun i h => sh_int (by omega) (by omega)
    have hS : ∀ d ∈ ([.none, .tuple [], .int 0, .str "", .list [], .dict []] ++ [.tuple [.int 0]] ++ [.tuple [.int 0, .int 0, .int 0]] ++ [.tuple [.bool true, .int 1]] ++ [.tuple [.int 0, .str "1"]] : List PyData), ShQ d 400000 50 := by
      intro d hd
      rcases List.mem_append.mp hd with hd | hd
      · rcases List.mem_append.mp hd with hd | hd
        · rcases List.mem_append.mp hd with hd | hd
          · rcases List.mem_append.mp hd with hd | hd
            · rcases List.mem_cons.mp hd with rfl | hd
              · exact Sh.non.q.mono (by decide) (by decide)
              rcases List.mem_cons.mp hd with rfl | hd
              · exact (ShQ.tup (n := 0) (k := 0) (ds := []) (fun _ z => by cases z)).mono (by decide) (by decide)
              rcases List.mem_cons.mp hd with rfl | hd
              · exact (i0 0 (.inl rfl)).mono (by decide) (by decide)
              rcases List.mem_cons.mp hd with rfl | hd
              · exact ⟨rfl, by simp [PyData.depth], by decide +kernel⟩
              rcases List.mem_cons.mp hd with rfl | hd
              · exact (ShQ.list (n := 0) (k := 0) (ds := []) (fun _ z => by cases z)).mono (by decide) (by decide)
              · rw [List.mem_singleton.mp hd]
                exact ShQ.dict0.mono (by decide) (by decide)
            · rw [List.mem_singleton.mp hd]
              exact (sh_flat (n := 700) (fun d hd => by rw [List.mem_singleton.mp hd]; exact i0 0 (.inl rfl)) (by decide)).mono (by decide) (by decide)
          · rw [List.mem_singleton.mp hd]
            exact (sh_flat (n := 700) (fun d hd => by
              rcases List.mem_cons.mp hd with rfl | hd
              · exact i0 0 (.inl rfl)
              rcases List.mem_cons.mp hd with rfl | hd
              · exact i0 0 (.inl rfl)
              · rw [List.mem_singleton.mp hd]; exact i0 0 (.inl rfl)) (by decide)).mono (by decide) (by decide)
        · rw [List.mem_singleton.mp hd]
          exact (sh_flat (n := 700) (fun d hd => by
            rcases List.mem_cons.mp hd with rfl | hd
            · exact (Sh.bl _).q.mono (by decide) (by decide)
            · rw [List.mem_singleton.mp hd]; exact i0 1 (.inr rfl)) (by decide)).mono (by decide) (by decide)
      · rw [List.mem_singleton.mp hd]
        exact (sh_flat (n := 700) (fun d hd => by
          rcases List.mem_cons.mp hd with rfl | hd
          · exact i0 0 (.inl rfl)
          · rw [List.mem_singleton.mp hd]; exact ⟨rfl, by simp [PyData.depth], by decide +kernel⟩) (by decide)).mono (by decide) (by decide)
    have sL := same_upd (o := .lst ([V.non, .ref e1, .int 0, .str "", .ref l2, .ref d3] ++ [.ref p4] ++ [.ref p5] ++ [.ref p6] ++ [.ref p7])) hL
    have wide : ∀ x ∈ [sysModules, a, L], x ∈ [sysModules, a] ∨ J7 x = none := fun x hx => by
      rcases List.mem_cons.mp hx with rfl | hx
      · exact .inl List.mem_cons_self
      rcases List.mem_cons.mp hx with rfl | hx
      · exact .inl (List.mem_cons_of_mem _ (List.mem_singleton.mpr rfl))
      · rw [List.mem_singleton.mp hx]; exact .inr hL
    have hB := (Dq.widerAll (bad' := [sysModules, a, L]) wide _ _ hA).same sL
    have hT := (Dq.wider (bad' := [sysModules, a, L]) wide _ _ hT).same sL
    have rt : Rt K C a L S W r ls xs ws H (upd J7 L (.lst [V.non, .ref e1, .int 0, .str "", .ref l2, .ref d3, .ref p4, .ref p5, .ref p6, .ref p7])) [V.non, .ref e1, .int 0, .str "", .ref l2, .ref d3, .ref p4, .ref p5, .ref p6, .ref p7] (n + 400) 10 := ⟨⟨(wd.pot.same sL), wd.but.trans (But.of sL), upd_same, fun x hx => let ⟨d, h1, h2⟩ := hB.mem hx; ⟨d, h2, hS d h1⟩, by show 10 ≤ 10; decide, nL, HL⟩, (wd.same sL).eS, (wd.same sL).ra, (wd.same sL).eW, (wd.same sL).ta⟩
    refine ⟨_, _, rfl, ?_⟩
    refine to_st (σ' := [some (.ref a), some (.ref S), some (.ref r), some (.ref W), some tv, some (.ref L), none, none, none, none, none, none]) rfl ?_
    clear hS hB sL hA wd wide sA i0 flatN
    have hT' : Dq K [sysModules, a, L] (upd J7 L (.lst [V.non, .ref e1, .int 0, .str "", .ref l2, .ref d3, .ref p4, .ref p5, .ref p6, .ref p7])) tv dT := hT
    clear hT
    generalize [V.non, .ref e1, .int 0, .str "", .ref l2, .ref d3, .ref p4, .ref p5, .ref p6, .ref p7] = X0 at rt hT' ⊢
    generalize upd J7 L (.lst X0) = J8 at rt hT' ⊢
    refine ⟨_, rfl, .inl ⟨rfl, _, SqL.of rt.g.here⟩, _, rfl, a, _, [a, L], rfl, rt.g.pot, by omega, List.mem_cons_self, rt.g.ex, fun v d J9 hv p9 b9 => ?_⟩
    have hT := rt.g.dq b9 hT'
    have rt := rt.step b9 p9
    refine ⟨L, _, _, rfl, rfl, rt.g.here, small1000 (by have := rt.g.len; omega), ?_⟩
    have hT := rt.g.upd hT (.lst (X0 ++ [v]))
    have rt := rt.add [v] (c' := 11) (fun y hy => by
      rw [List.mem_singleton.mp hy]
      exact ⟨d, hv.1, hv.2.mono (by decide) (by decide)⟩) (by show 10 + 1 ≤ 11; decide)
    clear hT' hv b9 p9 s4 s5 s6 s7
    generalize X0 ++ [v] = X1 at rt hT ⊢
    generalize upd _ L (.lst X1) = J10 at rt hT ⊢
    refine ⟨30, rfl, by decide, by decide, for_range (n := 30) (fun i σ H' => ∃ v6 v7 v8 v9 v10 v11 X, σ = [some (.ref a), some (.ref S), some (.ref r), some (.ref W), some tv, some (.ref L), v6, v7, v8, v9, v10, v11] ∧ Rt K C a L S W r ls xs ws H H' X (n + 500 + 10 * i) (11 + 4 * i) ∧ Dq K [sysModules, a, L] H' tv dT) ⟨none, none, none, none, none, none, X1, rfl, rt.mono (by omega) (by omega), hT⟩ ?_ ?_⟩
    · rintro i σ JA hi ⟨v6, v7, v8, v9, v10, v11, X, rfl, rt, hT⟩
      refine gN_st (σ' := [some (.ref a), some (.ref S), some (.ref r), some (.ref W), some tv, some (.ref L), some (.int (0 + (i : Nat))), v7, v8, v9, v10, v11]) rfl ?_
      obtain ⟨ini, tl, ql, exs, hql, htl⟩ := wish_last rt.ta ok.pos
      have hat : atI xs (-1) = some (V.ref tl) := by rw [exs]; exact atI_last _ _
      have ql18 := ok.bd ql (List.mem_of_getLast? hql)
      refine ⟨_, rfl, _, rfl, _, rfl, W, _, _, _, rfl, rfl, SqT.of rt.eW, hat, tl, _, _, _, rfl, rfl, SqT.of htl, rfl, _, _, rfl, rfl, a, _, _, rfl, rt.g.pot, by omega, by omega, small600 (by omega) (by omega), fun age JB g0 g1 pB bB => ?_⟩
      have hT := rt.g.dq bB hT
      have rt := rt.step bB pB
      refine gN_st (σ' := [some (.ref a), some (.ref S), some (.ref r), some (.ref W), some tv, some (.ref L), some (.int (0 + (i : Nat))), some (.int age), v8, v9, v10, v11]) rfl ?_
      refine ⟨_, rfl, _, _, rfl, rfl, _, rfl, a, _, _, rfl, rt.g.pot, by omega, by decide, by decide, fun tt JC t0 t1 pC bC => ?_⟩
      have hT := rt.g.dq bC hT
      have rt := rt.step bC pC
      refine ⟨_, _, rfl, rfl, ?_⟩
      refine gN_intE fun time htime => ?_
      refine gN_st (σ' := [some (.ref a), some (.ref S), some (.ref r), some (.ref W), some tv, some (.ref L), some (.int (0 + (i : Nat))), some (.int age), some (.int time), v9, v10, v11]) rfl ?_
      have shA : ∀ i j : Int, -(10 ^ 40) ≤ i → i ≤ 10 ^ 40 → -(10 ^ 40) ≤ j → j ≤ 10 ^ 40 → ShQ (.tuple [.int i, .int j]) 400000 50 := fun i j h1 h2 h3 h4 => (shq_two (sh_int h1 h2) (sh_int h3 h4)).mono (by decide) (by decide)
      refine ⟨_, rfl, .inl ⟨rfl, _, SqL.of rt.g.here⟩, _, rfl, _, rfl, by show 2 ≤ sizeLine; decide, fun q1 hq1 => ?_⟩
      have u1 := same_upd (o := .tup [V.int age, .int time]) hq1
      have h1 : Dq K [sysModules, a, L] (upd JC q1 (.tup [V.int age, .int time])) (.ref q1) (.tuple [.int age, .int time]) := .tup (SqT.of upd_same) (.cons (.int _) (.cons (.int _) .nil))
      have hT := hT.same u1
      have rt := rt.same u1
      generalize upd JC q1 (.tup [V.int age, .int time]) = N1 at rt hT h1 ⊢
      refine ⟨_, rfl, _, rfl, by show 2 ≤ sizeLine; decide, fun q2 hq2 ns2 => ?_⟩
      have u2 := same_upd (o := .lst [V.int age, .int time]) hq2
      have h2 : Dq K [sysModules, a, L] (upd N1 q2 (.lst [V.int age, .int time])) (.ref q2) (.list [.int age, .int time]) := .lst upd_same (rt.g.out hq2 ns2) (.cons (.int _) (.cons (.int _) .nil))
      have hT := hT.same u2
      have h1 := h1.same u2
      have rt := rt.same u2
      generalize upd N1 q2 (.lst [V.int age, .int time]) = N2 at rt hT h1 h2 ⊢
      refine ⟨_, rfl, _, rfl, _, _, rfl, rfl, _, rfl, by show 2 ≤ sizeLine; decide, fun q3 hq3 => ?_⟩
      have u3 := same_upd (o := .tup [V.int (-1 - age), .int time]) hq3
      have h3 : Dq K [sysModules, a, L] (upd N2 q3 (.tup [V.int (-1 - age), .int time])) (.ref q3) (.tuple [.int (-1 - age), .int time]) := .tup (SqT.of upd_same) (.cons (.int _) (.cons (.int _) .nil))
      have hT := hT.same u3
      have h1 := h1.same u3
      have h2 := h2.same u3
      have rt := rt.same u3
      refine ⟨_, rfl, _, rfl, _, _, rfl, rfl, ⟨by decide, by decide, by decide⟩, _, rfl, a, _, 2, rfl, rt.g.pot, by omega, by decide, by decide, fun e2 N4 e20 e21 p4 b4 => ?_⟩
      have h3 := rt.g.dq b4 h3
      have h2 := rt.g.dq b4 h2
      have h1 := rt.g.dq b4 h1
      have hT := rt.g.dq b4 hT
      have rt := rt.step b4 p4
      refine ⟨_, _, rfl, rfl, .inl ⟨by decide, by decide⟩, _, _, rfl, rfl, by show 2 ≤ sizeLine; decide, fun q4 hq4 => ?_⟩
      have e218 : 0 ≤ (10 : Int) ^ (18 : Int).toNat * e2 ∧ (10 : Int) ^ (18 : Int).toNat * e2 ≤ 10 ^ 19 := by
        have e' : (10 : Int) ^ (18 : Int).toNat = 1000000000000000000 := by decide
        rw [e']
        omega
      have bf : -(10 ^ 40) ≤ time + (10 : Int) ^ (18 : Int).toNat * e2 ∧ time + (10 : Int) ^ (18 : Int).toNat * e2 ≤ 10 ^ 40 := by
        generalize (10 : Int) ^ (18 : Int).toNat * e2 = zz at e218 ⊢
        constructor <;> omega
      have u4 := same_upd (o := .tup [V.int age, .int (time + (10 : Int) ^ (18 : Int).toNat * e2)]) hq4
      have h4 : Dq K [sysModules, a, L] (upd N4 q4 (.tup [V.int age, .int (time + (10 : Int) ^ (18 : Int).toNat * e2)])) (.ref q4) (.tuple [.int age, .int (time + (10 : Int) ^ (18 : Int).toNat * e2)]) := .tup (SqT.of upd_same) (.cons (.int _) (.cons (.int _) .nil))
      have hT := hT.same u4
      have h1 := h1.same u4
      have h2 := h2.same u4
      have h3 := h3.same u4
      have rt := rt.same u4
      refine ⟨by show 4 ≤ sizeLine; decide, fun M hM => ?_⟩
      have u5 := same_upd (o := .lst [V.ref q1, .ref q2, .ref q3, .ref q4]) hM
      have hT := hT.same u5
      have h1 := h1.same u5
      have h2 := h2.same u5
      have h3 := h3.same u5
      have h4 := h4.same u5
      have rt := rt.same u5
      refine ⟨L, M, _, _, rfl, rfl, rt.g.here, upd_same, by have := rt.g.len; rw [sizeLine_eq]; show X.length + 4 ≤ _; omega, ?_⟩
      refine ⟨_, _, _, _, _, _, _, rfl, (rt.add [V.ref q1, .ref q2, .ref q3, .ref q4] (c' := 11 + 4 * (i + 1)) (fun y hy => by
        rcases List.mem_cons.mp hy with rfl | hy
        · exact ⟨_, h1, shA _ _ (by omega) (by omega) (by omega) (by omega)⟩
        rcases List.mem_cons.mp hy with rfl | hy
        · exact ⟨_, h2, (ShQ.list (n := 700) (k := 0) fun d hd => by
            rcases List.mem_cons.mp hd with rfl | hd
            · exact sh_int (by omega) (by omega)
            · rw [List.mem_singleton.mp hd]
              exact sh_int (by omega) (by omega)).mono (by show 2 * 700 + 2 * 2 + 3 ≤ _; decide) (by decide)⟩
        rcases List.mem_cons.mp hy with rfl | hy
        · exact ⟨_, h3, shA _ _ (by omega) (by omega) (by omega) (by omega)⟩
        · rw [List.mem_singleton.mp hy]
          exact ⟨_, h4, shA _ _ (by omega) (by omega) bf.1 bf.2⟩) (by show 11 + 4 * i + 4 ≤ 11 + 4 * (i + 1); omega)).mono (by omega) (Nat.le_refl _), rt.g.upd hT _⟩
    · rintro σ JA ⟨v6, v7, v8, v9, v10, v11, X, rfl, rt, hT⟩
      obtain ⟨N, eN, hN6, hNz⟩ : ∃ N : Nat, (6 : Int) * (if (!decide (tv = V.non)) = true then 1 else 0) = ((N : Nat) : Int) ∧ N ≤ 6 ∧ (0 < N → tv ≠ .non) := by
        by_cases z : tv = .non
        · exact ⟨0, by rw [decide_eq_true z]; rfl, by decide, fun h => absurd h (by decide)⟩
        · exact ⟨6, by rw [decide_eq_false z]; rfl, by decide, fun _ => z⟩
      refine ⟨_, rfl, rfl, .inr ⟨_, rfl, _, _, rfl, rfl, .inl ⟨by decide, by decide⟩, ((N : Nat) : Int), congrArg (fun z => [V.int z]) eN, by omega, by omega, ?_⟩⟩
      refine for_range (n := N) (fun j σ H' => ∃ v6 v9 X, σ = [some (.ref a), some (.ref S), some (.ref r), some (.ref W), some tv, some (.ref L), v6, v7, v8, v9, v10, v11] ∧ Rt K C a L S W r ls xs ws H H' X (n + 1000 + 200 * j) (131 + 3 * j) ∧ Dq K [sysModules, a, L] H' tv dT) ⟨v6, v9, X, rfl, rt.mono (by omega) (by omega), hT⟩ ?_ ?_
      · rintro j σ K1 hj ⟨v6, v9, X, rfl, rt, hT⟩
        obtain ⟨b, t, rfl, b0, b1, t0', t1'⟩ : ∃ b t : Int, dT = .tuple [.int b, .int t] ∧ 0 ≤ b ∧ b ≤ 10 ^ 18 ∧ 0 ≤ t ∧ t ≤ 10 ^ 19 := by
          rcases hTb with z | ⟨_, z⟩
          · exact absurd z (hNz (by omega))
          · exact z
        have shT : ShQ (.tuple [.int b, .int t]) 1407 1 := shq_two (sh_int (by omega) (by omega)) (sh_int (by omega) (by omega))
        have tdT : Td (10 ^ 19) 2 (.tuple [.int b, .int t]) := fun d hd => by
          rcases List.mem_cons.mp hd with rfl | hd
          · exact ⟨by omega, by omega⟩
          · rw [List.mem_singleton.mp hd]
            exact ⟨by omega, by omega⟩
        have tiT : Ti 2 (.tuple [.int b, .int t]) := fun d hd => by
          rcases List.mem_cons.mp hd with rfl | hd
          · trivial
          · rw [List.mem_singleton.mp hd]
            trivial
        refine gN_st (σ' := [some (.ref a), some (.ref S), some (.ref r), some (.ref W), some tv, some (.ref L), some (.int (0 + (j : Nat))), v7, v8, v9, v10, v11]) rfl ?_
        refine ⟨_, rfl, _, rfl, a, _, 2, 1407, 1, 10 ^ 19, _, _, [a, L], rfl, by decide, rt.g.pot, by omega, List.mem_cons_self, rt.g.ex, hT, shT, by decide, by decide, rfl, tdT, by decide, by decide, fun v' d' K2 dq sh ti p2 b2 => ?_⟩
        have hT := rt.g.dq b2 hT
        have rt := rt.step b2 p2
        obtain ⟨lay', td', sh'⟩ := ti tiT
        refine gN_st (σ' := [some (.ref a), some (.ref S), some (.ref r), some (.ref W), some tv, some (.ref L), some (.int (0 + (j : Nat))), v7, v8, some v', v10, v11]) rfl ?_
        refine ⟨_, rfl, .inl ⟨rfl, _, SqL.of rt.g.here⟩, _, rfl, _, rfl, _, rfl, _, rfl, a, _, 3, _, _, 10 ^ 19 + 3, _, _, [a, L], rfl, by decide, rt.g.pot, by omega, List.mem_cons_self, rt.g.ex, dq, sh', by decide, by decide, lay', td', by decide, by decide, fun v2 d2 K3 dq2 sh2 _ p3 b3 => ?_⟩
        have dq := rt.g.dq b3 dq
        have hT := rt.g.dq b3 hT
        have rt := rt.step b3 p3
        refine ⟨by show 3 ≤ sizeLine; decide, fun M4 hM4 => ?_⟩
        have s4 := same_upd (o := .lst [tv, v', v2]) hM4
        have rt := rt.same s4
        have hT := hT.same s4
        refine ⟨L, M4, _, _, rfl, rfl, rt.g.here, upd_same, by have := rt.g.len; rw [sizeLine_eq]; show X.length + 3 ≤ _; omega, ?_⟩
        have rt2 := rt.add [tv, v', v2] (c' := 131 + 3 * (j + 1)) (fun y hy => by
          rcases List.mem_cons.mp hy with rfl | hy
          · exact ⟨_, hT, shT.mono (by decide) (by decide)⟩
          rcases List.mem_cons.mp hy with rfl | hy
          · exact ⟨_, dq.same s4, sh.mono (by decide) (by decide)⟩
          · rw [List.mem_singleton.mp hy]
            exact ⟨_, dq2.same s4, sh2.mono (by decide) (by decide)⟩) (by show 131 + 3 * j + 3 ≤ _; omega)
        exact ⟨_, _, _, rfl, rt2.mono (by omega) (Nat.le_refl _), rt.g.upd hT _⟩
      · rintro σ K1 ⟨v6, v9, X, rfl, rt, hT⟩
        have here := rt.g.here
        refine ⟨_, rfl, L, rfl, ⟨_, SqL.of here⟩, for_list (xs := X) (fun j σ H' => Same K1 H' ∧ ∃ w9 w10 w11, σ = [some (.ref a), some (.ref S), some (.ref r), some (.ref W), some tv, some (.ref L), v6, v7, v8, w9, w10, w11]) ⟨Same.refl _, _, _, _, rfl⟩ (fun j σ H' _ z => SqL.of (z.1 _ _ here)) ?_ ?_⟩
        · rintro j x σ HH hx ⟨sH, w9, w10, w11, rfl⟩
          obtain ⟨d, hd, sh⟩ := rt.g.vs x (List.mem_of_getElem? hx)
          obtain ⟨o1, o2, o3⟩ := sh.ok (by decide) (by decide)
          have rt := rt.same sH
          have hd := hd.same sH
          refine gN_st (σ' := [some (.ref a), some (.ref S), some (.ref r), some (.ref W), some tv, some (.ref L), v6, v7, v8, some x, w10, w11]) rfl ?_
          obtain ⟨b, hb⟩ : ∃ b, b = brokenD ls ws d := ⟨_, rfl⟩
          obtain ⟨r1, r2, r3, r4⟩ := (Sh.bl b).ok (by decide) (by decide)
          refine ⟨_, rfl, x, d, _, rfl, hd, List.mem_cons_self, o1, o2, o3, ?_⟩
          refine ⟨_, rfl, _, rfl, _, rfl, _, S, W, x, d, ls, xs, ws, rfl, hd, rt.eS, g, rt.eW, rt.ta, ok, fun HI sI => ?_⟩
          have rt := rt.same sI
          have hd := hd.same sI
          rw [← hb]
          refine ⟨_, _, rfl, ?_⟩
          refine to_st (σ' := [some (.ref a), some (.ref S), some (.ref r), some (.ref W), some tv, some (.ref L), v6, v7, v8, some x, some (.str d.shown), some (.bl b)]) rfl ?_
          refine ⟨_, rfl, _, rfl, _, rfl, _, r, W, x, d, short ls, xs, ws, rfl, hd, rt.ra, hls, rt.eW, rt.ta, ok, fun HJ sJ => ?_⟩
          have hd := hd.same sJ
          rw [broken_short g, ← hb]
          refine ⟨_, .bool b, rfl, .bl b, r1, r2, r3, r4, _, rfl, _, .bool b, rfl, .bl b, r1, r2, r3, r4, rfl, _, rfl, ?_⟩
          refine ite2 (fun z => absurd z (ne_self _)) (fun _ => ?_)
          refine ⟨_, rfl, x, d, _, rfl, hd, List.mem_cons_self, o1, o2, o3, _, rfl, rfl, _, rfl, ?_⟩
          refine ite2 (fun z => absurd z (ne_self _)) (fun _ => ?_)
          exact ⟨sH.trans (sI.trans sJ), _, _, _, rfl⟩
        · rintro σ HH ⟨sH, w9, w10, w11, rfl⟩
          have rt := rt.same sH
          exact k _ (rt.g.pot.mono (by omega)) rt.g.but
end
/-! SPLIT -/
theorem has_mono {P : Program} {w : World} {K : PySem.W.Frag} {mg : Str → Option Value} {base : Heap} {k j : Nat} {x : Str} {ps : List Str} {sp : Sp} (h : Has P w K mg base k x ps sp) (z : k ≤ j) : Has P w K mg base j x ps sp := by
  obtain ⟨f, fd, a1, a2, a3, F⟩ := h
  exact ⟨f, fd, a1, a2, a3, F.mono z⟩
theorem all_mk {l : PySem.W.OpenLaw} {w : World} {K : PySem.W.Frag} {mg : Str → Option Value} {base : Heap} {C CR : Addr} {mc : Value} {fInit pAre fAre pOf fOf fCall pLv fLv : Addr} {fdInit fdAre fdOf fdCall fdLv : FuncData} (T : Bl mg) (R : RuleT K mg C CR mc fInit pAre fAre fdAre)
    (FI : Fun K "__init__" "Rule.__init__" s_Rule___init__ fInit fdInit) (FA : Fun K "are_lives" "Rule.are_lives" s_Rule_are_lives fAre fdAre) (FO : Fun K "of" "Rule.of" s_Rule_of fOf fdOf) (MOf : ClX.CMet K C mc "of" pOf fOf) (FC : Fun K "__call__" "Rule.__call__" s_Rule___call__ fCall fdCall) (MCall : StX.CallO K C fCall) (M_lv : PropOf K C "lives" pLv fLv) (FLv : Fun K "lives" "Rule.lives" s_Rule_lives fLv fdLv)
    (D_is_natural : Df K mg "is_natural" s_is_natural ["value"]) (D_is_pair : Df K mg "is_pair" s_is_pair ["value"]) (D_at_most : Df K mg "at_most" s_at_most ["one", "other"]) (D_lesser : Df K mg "lesser" s_lesser ["one", "other"]) (D_greater : Df K mg "greater" s_greater ["one", "other"]) (D_restore_point : Df K mg "restore_point" s_restore_point ["rule", "tick", "age"]) (D_distance : Df K mg "distance" s_distance ["rule", "tick", "age"]) (D_bands : Df K mg "_bands" s_bands ["rule", "tick"]) (D_shortest : Df K mg "shortest" s_shortest ["lives"]) (D_worst : Df K mg "worst" s_worst ["rule", "age"]) (D_worst_tick : Df K mg "worst_tick" s_worst_tick ["rule", "age"]) (D_promised : Df K mg "promised" s_promised ["rule"]) (D_first_broken : Df K mg "first_broken" s_first_broken ["rule", "wish"]) (D_shows_broken : Df K mg "shows_broken" s_shows_broken ["rule", "wish", "value"]) (D_first_beyond : Df K mg "_first_beyond" s_first_beyond ["rule", "wished"]) (D_law_pot : Df K mg "_law_pot" s_law_pot ["_law_script", "_law_k"]) (D_law_take : Df K mg "_law_take" s_law_take ["_law_pot_here", "_law_many"]) (D_law_of : Df K mg "_law_of" s_law_of ["_law_pot_here", "_law_some"]) (D_law_two : Df K mg "_law_two" s_law_two ["_law_index_here"]) (D_law_lives : Df K mg "_law_lives" s_law_lives ["_law_pot_here", "_law_many", "_law_great"]) (D_law_ended : Df K mg "_law_ended" s_law_ended ["_law_pot_here", "_law_lives_here"]) (D_law_enough : Df K mg "_law_enough" s_law_enough ["_law_life", "_law_number"]) (D_law_gap : Df K mg "_law_gap" s_law_gap ["_law_lives_here", "_law_time", "_law_age"]) (D_law_index : Df K mg "_law_index" s_law_index ["_law_lives_here", "_law_age"]) (D_law_wish : Df K mg "_law_wish" s_law_wish ["_law_pot_here", "_law_many", "_law_great", "_law_far"]) (D_law_odd : Df K mg "_law_odd" s_law_odd ["_law_pot_here"]) (D_law_bent : Df K mg "_law_bent" s_law_bent ["_law_pot_here", "_law_value"]) (D_law_due : Df K mg "_law_due" s_law_due ["_law_lives_here", "_law_wish_here", "_law_value"]) (D_law_great_right : Df K mg "_law_great_right" s_law_great_right ["_law_pot_here"]) (D_law_right : Df K mg "_law_right" s_law_right ["_law_pot_here"]) (D_law : Df K mg "law" s_law ["_law_script"]) :
    Has l.prog w K mg base 9 "law" ["_law_script"] (spLaw K) :=
  let nat := ok_natural (P := l.prog) (w := w) (base := base) D_is_natural T
  let are := ok_are FA T R nat
  let init := ok_init FI T R are (ok_shortest D_shortest T)
  let gof := fnR_ok (ok_of FO T R are init) (FO.binds (ps := ["cls", "lives"]) fun _ _ _ _ _ _ us hl => match us, hl with | [_, _], _ => rfl)
  let atm := ok_at_most (P := l.prog) (w := w) (base := base) D_at_most
  let gcall := fnR_ok (ok_call FC T R atm) (FC.binds (ps := ["self", "age"]) fun _ _ _ _ _ _ us hl => match us, hl with | [_, _], _ => rfl)
  let lives := ok_livesP (P := l.prog) (w := w) (base := base) (mg := mg) FLv R
  let bLv := FLv.binds (ps := ["self"]) fun _ _ _ _ _ _ us hl => match us, hl with | [_], _ => rfl
  let worstP := ok_worstP D_worst MCall gcall
  let take := ok_take (P := l.prog) (w := w) (base := base) D_law_take T
  let pick := ok_pick D_law_of T take
  let two := ok_two (P := l.prog) (w := w) (base := base) D_law_two T
  let natQ := ok_natQ (P := l.prog) (w := w) (K := K) (base := base) D_is_natural T
  let bands := ok_bands D_bands T R M_lv lives bLv atm
  let rp := ok_rp D_restore_point bands (ok_lesser D_lesser atm)
  let dist := ok_dist D_distance rp
  let wt := ok_wt D_worst_tick T R M_lv lives bLv worstP
  let prom := ok_promised D_promised T R M_lv lives bLv atm
  let first := ok_first D_first_broken (ok_beyond D_first_beyond prom) atm wt
  let shows := ok_showsA D_shows_broken (ok_pairQ D_is_pair T natQ) dist atm
  let enough := ok_enough (P := l.prog) (w := w) (base := base) D_law_enough
  let index := ok_index D_law_index T enough two
  let due := ok_dueA (K := K) D_law_due T (ok_gap D_law_gap T two enough)
  let pickT := ok_pickT (K := K) D_law_of T take
  let lvs := ok_lives D_law_lives T take pick two
  let end_ := ok_ended D_law_ended T take
  let wish := ok_wish D_law_wish T take pick
  let odd := ok_odd D_law_odd T take pick
  let b0 := ok_bent0 (P := l.prog) (w := w) (K := K) (base := base) D_law_bent
  let b1 := ok_bentS (by decide) (by decide) D_law_bent T take pick odd b0
  let b2 := ok_bentS (by decide) (by decide) D_law_bent T take pick odd b1
  let b3 := ok_bentS (by decide) (by decide) D_law_bent T take pick odd b2
  let great := ok_great D_law_great_right T R MOf gof take pick pickT two lvs end_ wish index shows due
  ok_law (by decide) D_law T (ok_pot D_law_pot T) (has_mono great (by decide)) (ok_right D_law_right T R MOf gof take pick lvs end_ wish odd b3 first shows due)
end Rk
open PySem PySem.W L2 in
set_option maxHeartbeats 0 in
theorem Rk.end_mk {l : OpenLaw} {w : World} {K : Frag} {mg : Str → Option Value} {h base : Heap} (X : K.In h) (G : h.Ns mainGlobals mg) {C CR : Addr} {tL tM : Tok} {pA pO : Addr} {rA rO : List Value}
    (aC : nsIn K mainGlobals "Rule" = some (some (.ref C)))
    (aR : nsIn K mainGlobals "Reckoned" = some (some (.ref CR)))
    (aL : nsIn K mainGlobals "LONGEST_LIFE" = some (some (.int 1000000000000000000 tL)))
    {fI : Addr} {ocI kVI docI pmI cdvI ctI : Value} {odI anI : Option Addr} {oslI : Array (Option Value)}
    {fA : Addr} {ocA kVA docA pmA cdvA ctA : Value} {odA anA : Option Addr} {oslA : Array (Option Value)}
    {fO : Addr} {ocO kVO docO pmO cdvO ctO : Value} {odO anO : Option Addr} {oslO : Array (Option Value)}
    {fK : Addr} {ocK kVK docK pmK cdvK ctK : Value} {odK anK : Option Addr} {oslK : Array (Option Value)}
    {fLv : Addr} {ocLv kVLv docLv pmLv cdvLv ctLv : Value} {odLv anLv : Option Addr} {oslLv : Array (Option Value)}
    (aI : findIn K (.ref C) "__init__" = some (some (.ref fI)))
    (aA : findCls K (.ref C) (.type "type") "are_lives" = some (.get (.builtin "staticmethod.__get__") (.ref pA) .none (.ref C)))
    (xA : recIn K pA "staticmethod" = some (.ref fA :: rA))
    (aO : findCls K (.ref C) (.type "type") "of" = some (.get (.builtin "classmethod.__get__") (.ref pO) .none (.ref C)))
    (xO : recIn K pO "classmethod" = some (.ref fO :: rO))
    {pLv : Addr} {rLv : List Value}
    (aLv : findIn K (.ref C) "lives" = some (some (.ref pLv)))
    (gLv : specialIn K (.ref pLv) "__get__" = some (some (.builtin "property.__get__")))
    (tLv : takesIn K (.ref pLv) = some true)
    (xLv : recIn K pLv "property" = some (.ref fLv :: rLv))
    (aK : findIn K (.ref C) "__call__" = some (some (.ref fK)))
    (lI : K.lookup fI = some ⟨ocI, odI, .func (fnOf "__init__" "Rule.__init__" (defArgs Rk.s_Rule___init__) (defBody Rk.s_Rule___init__) (defScope Rk.s_Rule___init__) .none kVI docI pmI anI cdvI ctI), oslI⟩)
    (cI : codeIn K cdvI "Rule.__init__" = true)
    (kI : keepIn K (.ref fI) = true)
    (lA : K.lookup fA = some ⟨ocA, odA, .func (fnOf "are_lives" "Rule.are_lives" (defArgs Rk.s_Rule_are_lives) (defBody Rk.s_Rule_are_lives) (defScope Rk.s_Rule_are_lives) .none kVA docA pmA anA cdvA ctA), oslA⟩)
    (cA : codeIn K cdvA "Rule.are_lives" = true)
    (kA : keepIn K (.ref fA) = true)
    (lO : K.lookup fO = some ⟨ocO, odO, .func (fnOf "of" "Rule.of" (defArgs Rk.s_Rule_of) (defBody Rk.s_Rule_of) (defScope Rk.s_Rule_of) .none kVO docO pmO anO cdvO ctO), oslO⟩)
    (cO : codeIn K cdvO "Rule.of" = true)
    (kO : keepIn K (.ref fO) = true)
    (lK : K.lookup fK = some ⟨ocK, odK, .func (fnOf "__call__" "Rule.__call__" (defArgs Rk.s_Rule___call__) (defBody Rk.s_Rule___call__) (defScope Rk.s_Rule___call__) .none kVK docK pmK anK cdvK ctK), oslK⟩)
    (cK : codeIn K cdvK "Rule.__call__" = true)
    (kK : keepIn K (.ref fK) = true)
    (lLv : K.lookup fLv = some ⟨ocLv, odLv, .func (fnOf "lives" "Rule.lives" (defArgs Rk.s_Rule_lives) (defBody Rk.s_Rule_lives) (defScope Rk.s_Rule_lives) .none kVLv docLv pmLv anLv cdvLv ctLv), oslLv⟩)
    (cLv : codeIn K cdvLv "Rule.lives" = true)
    (kLv : keepIn K (.ref fLv) = true)
    (q1 : plainGet K C Str.empty = true)
    (q2 : hasDictIn K C = true)
    (q3 : plainOver K C = true)
    (q4 : findIn K (.ref C) "__setattr__" = some (some (.builtin "object.__setattr__")))
    (q5 : makesIn K C = true)
    (q6 : isFn K (.ref fI) = true)
    (q7 : keepIn K (.ref C) = true)
    (q8 : findIn K (.ref C) "_lives" = some none)
    (q9 : readsIn K C (.type "type") = true)
    (r1 : specialIn K (.ref C) "__getattribute__" = some (some (.builtin "type.__getattribute__")))
    (r2 : findCls K (.ref C) (.type "type") "MOST_LIVES" = some (.val (.int 61 tM)))
    (r4 : fnIn K fO = true)
    (r5 : isFn K (.ref fK) = true)
    (r6 : fnIn K fK = true)
    (r7 : kitOne K (.type "int") (.ref CR) = some false)
    (r8 : kitOne K (.type "NoneType") (.ref CR) = some false)
    {f1 : Addr} {oc1 kV1 doc1 pm1 cdv1 ct1 : Value} {od1 an1 : Option Addr} {osl1 : Array (Option Value)}
    (a1 : nsIn K mainGlobals "is_natural" = some (some (.ref f1)))
    (l1 : K.lookup f1 = some ⟨oc1, od1, .func (fnOf "is_natural" "is_natural" (defArgs Rk.s_is_natural) (defBody Rk.s_is_natural) (defScope Rk.s_is_natural) .none kV1 doc1 pm1 an1 cdv1 ct1), osl1⟩)
    (c1 : codeIn K cdv1 "is_natural" = true)
    (k1 : keepIn K (.ref f1) = true)
    {f2 : Addr} {oc2 kV2 doc2 pm2 cdv2 ct2 : Value} {od2 an2 : Option Addr} {osl2 : Array (Option Value)}
    (a2 : nsIn K mainGlobals "is_pair" = some (some (.ref f2)))
    (l2 : K.lookup f2 = some ⟨oc2, od2, .func (fnOf "is_pair" "is_pair" (defArgs Rk.s_is_pair) (defBody Rk.s_is_pair) (defScope Rk.s_is_pair) .none kV2 doc2 pm2 an2 cdv2 ct2), osl2⟩)
    (c2 : codeIn K cdv2 "is_pair" = true)
    (k2 : keepIn K (.ref f2) = true)
    {f3 : Addr} {oc3 kV3 doc3 pm3 cdv3 ct3 : Value} {od3 an3 : Option Addr} {osl3 : Array (Option Value)}
    (a3 : nsIn K mainGlobals "at_most" = some (some (.ref f3)))
    (l3 : K.lookup f3 = some ⟨oc3, od3, .func (fnOf "at_most" "at_most" (defArgs Rk.s_at_most) (defBody Rk.s_at_most) (defScope Rk.s_at_most) .none kV3 doc3 pm3 an3 cdv3 ct3), osl3⟩)
    (c3 : codeIn K cdv3 "at_most" = true)
    (k3 : keepIn K (.ref f3) = true)
    {f4 : Addr} {oc4 kV4 doc4 pm4 cdv4 ct4 : Value} {od4 an4 : Option Addr} {osl4 : Array (Option Value)}
    (a4 : nsIn K mainGlobals "lesser" = some (some (.ref f4)))
    (l4 : K.lookup f4 = some ⟨oc4, od4, .func (fnOf "lesser" "lesser" (defArgs Rk.s_lesser) (defBody Rk.s_lesser) (defScope Rk.s_lesser) .none kV4 doc4 pm4 an4 cdv4 ct4), osl4⟩)
    (c4 : codeIn K cdv4 "lesser" = true)
    (k4 : keepIn K (.ref f4) = true)
    {f5 : Addr} {oc5 kV5 doc5 pm5 cdv5 ct5 : Value} {od5 an5 : Option Addr} {osl5 : Array (Option Value)}
    (a5 : nsIn K mainGlobals "greater" = some (some (.ref f5)))
    (l5 : K.lookup f5 = some ⟨oc5, od5, .func (fnOf "greater" "greater" (defArgs Rk.s_greater) (defBody Rk.s_greater) (defScope Rk.s_greater) .none kV5 doc5 pm5 an5 cdv5 ct5), osl5⟩)
    (c5 : codeIn K cdv5 "greater" = true)
    (k5 : keepIn K (.ref f5) = true)
    {f6 : Addr} {oc6 kV6 doc6 pm6 cdv6 ct6 : Value} {od6 an6 : Option Addr} {osl6 : Array (Option Value)}
    (a6 : nsIn K mainGlobals "restore_point" = some (some (.ref f6)))
    (l6 : K.lookup f6 = some ⟨oc6, od6, .func (fnOf "restore_point" "restore_point" (defArgs Rk.s_restore_point) (defBody Rk.s_restore_point) (defScope Rk.s_restore_point) .none kV6 doc6 pm6 an6 cdv6 ct6), osl6⟩)
    (c6 : codeIn K cdv6 "restore_point" = true)
    (k6 : keepIn K (.ref f6) = true)
    {f7 : Addr} {oc7 kV7 doc7 pm7 cdv7 ct7 : Value} {od7 an7 : Option Addr} {osl7 : Array (Option Value)}
    (a7 : nsIn K mainGlobals "distance" = some (some (.ref f7)))
    (l7 : K.lookup f7 = some ⟨oc7, od7, .func (fnOf "distance" "distance" (defArgs Rk.s_distance) (defBody Rk.s_distance) (defScope Rk.s_distance) .none kV7 doc7 pm7 an7 cdv7 ct7), osl7⟩)
    (c7 : codeIn K cdv7 "distance" = true)
    (k7 : keepIn K (.ref f7) = true)
    {f8 : Addr} {oc8 kV8 doc8 pm8 cdv8 ct8 : Value} {od8 an8 : Option Addr} {osl8 : Array (Option Value)}
    (a8 : nsIn K mainGlobals "_bands" = some (some (.ref f8)))
    (l8 : K.lookup f8 = some ⟨oc8, od8, .func (fnOf "_bands" "_bands" (defArgs Rk.s_bands) (defBody Rk.s_bands) (defScope Rk.s_bands) .none kV8 doc8 pm8 an8 cdv8 ct8), osl8⟩)
    (c8 : codeIn K cdv8 "_bands" = true)
    (k8 : keepIn K (.ref f8) = true)
    {f9 : Addr} {oc9 kV9 doc9 pm9 cdv9 ct9 : Value} {od9 an9 : Option Addr} {osl9 : Array (Option Value)}
    (a9 : nsIn K mainGlobals "shortest" = some (some (.ref f9)))
    (l9 : K.lookup f9 = some ⟨oc9, od9, .func (fnOf "shortest" "shortest" (defArgs Rk.s_shortest) (defBody Rk.s_shortest) (defScope Rk.s_shortest) .none kV9 doc9 pm9 an9 cdv9 ct9), osl9⟩)
    (c9 : codeIn K cdv9 "shortest" = true)
    (k9 : keepIn K (.ref f9) = true)
    {f10 : Addr} {oc10 kV10 doc10 pm10 cdv10 ct10 : Value} {od10 an10 : Option Addr} {osl10 : Array (Option Value)}
    (a10 : nsIn K mainGlobals "worst" = some (some (.ref f10)))
    (l10 : K.lookup f10 = some ⟨oc10, od10, .func (fnOf "worst" "worst" (defArgs Rk.s_worst) (defBody Rk.s_worst) (defScope Rk.s_worst) .none kV10 doc10 pm10 an10 cdv10 ct10), osl10⟩)
    (c10 : codeIn K cdv10 "worst" = true)
    (k10 : keepIn K (.ref f10) = true)
    {f11 : Addr} {oc11 kV11 doc11 pm11 cdv11 ct11 : Value} {od11 an11 : Option Addr} {osl11 : Array (Option Value)}
    (a11 : nsIn K mainGlobals "worst_tick" = some (some (.ref f11)))
    (l11 : K.lookup f11 = some ⟨oc11, od11, .func (fnOf "worst_tick" "worst_tick" (defArgs Rk.s_worst_tick) (defBody Rk.s_worst_tick) (defScope Rk.s_worst_tick) .none kV11 doc11 pm11 an11 cdv11 ct11), osl11⟩)
    (c11 : codeIn K cdv11 "worst_tick" = true)
    (k11 : keepIn K (.ref f11) = true)
    {f12 : Addr} {oc12 kV12 doc12 pm12 cdv12 ct12 : Value} {od12 an12 : Option Addr} {osl12 : Array (Option Value)}
    (a12 : nsIn K mainGlobals "promised" = some (some (.ref f12)))
    (l12 : K.lookup f12 = some ⟨oc12, od12, .func (fnOf "promised" "promised" (defArgs Rk.s_promised) (defBody Rk.s_promised) (defScope Rk.s_promised) .none kV12 doc12 pm12 an12 cdv12 ct12), osl12⟩)
    (c12 : codeIn K cdv12 "promised" = true)
    (k12 : keepIn K (.ref f12) = true)
    {f13 : Addr} {oc13 kV13 doc13 pm13 cdv13 ct13 : Value} {od13 an13 : Option Addr} {osl13 : Array (Option Value)}
    (a13 : nsIn K mainGlobals "first_broken" = some (some (.ref f13)))
    (l13 : K.lookup f13 = some ⟨oc13, od13, .func (fnOf "first_broken" "first_broken" (defArgs Rk.s_first_broken) (defBody Rk.s_first_broken) (defScope Rk.s_first_broken) .none kV13 doc13 pm13 an13 cdv13 ct13), osl13⟩)
    (c13 : codeIn K cdv13 "first_broken" = true)
    (k13 : keepIn K (.ref f13) = true)
    {f14 : Addr} {oc14 kV14 doc14 pm14 cdv14 ct14 : Value} {od14 an14 : Option Addr} {osl14 : Array (Option Value)}
    (a14 : nsIn K mainGlobals "shows_broken" = some (some (.ref f14)))
    (l14 : K.lookup f14 = some ⟨oc14, od14, .func (fnOf "shows_broken" "shows_broken" (defArgs Rk.s_shows_broken) (defBody Rk.s_shows_broken) (defScope Rk.s_shows_broken) .none kV14 doc14 pm14 an14 cdv14 ct14), osl14⟩)
    (c14 : codeIn K cdv14 "shows_broken" = true)
    (k14 : keepIn K (.ref f14) = true)
    {f15 : Addr} {oc15 kV15 doc15 pm15 cdv15 ct15 : Value} {od15 an15 : Option Addr} {osl15 : Array (Option Value)}
    (a15 : nsIn K mainGlobals "_first_beyond" = some (some (.ref f15)))
    (l15 : K.lookup f15 = some ⟨oc15, od15, .func (fnOf "_first_beyond" "_first_beyond" (defArgs Rk.s_first_beyond) (defBody Rk.s_first_beyond) (defScope Rk.s_first_beyond) .none kV15 doc15 pm15 an15 cdv15 ct15), osl15⟩)
    (c15 : codeIn K cdv15 "_first_beyond" = true)
    (k15 : keepIn K (.ref f15) = true)
    {f16 : Addr} {oc16 kV16 doc16 pm16 cdv16 ct16 : Value} {od16 an16 : Option Addr} {osl16 : Array (Option Value)}
    (a16 : nsIn K mainGlobals "_law_pot" = some (some (.ref f16)))
    (l16 : K.lookup f16 = some ⟨oc16, od16, .func (fnOf "_law_pot" "_law_pot" (defArgs Rk.s_law_pot) (defBody Rk.s_law_pot) (defScope Rk.s_law_pot) .none kV16 doc16 pm16 an16 cdv16 ct16), osl16⟩)
    (c16 : codeIn K cdv16 "_law_pot" = true)
    (k16 : keepIn K (.ref f16) = true)
    {f17 : Addr} {oc17 kV17 doc17 pm17 cdv17 ct17 : Value} {od17 an17 : Option Addr} {osl17 : Array (Option Value)}
    (a17 : nsIn K mainGlobals "_law_take" = some (some (.ref f17)))
    (l17 : K.lookup f17 = some ⟨oc17, od17, .func (fnOf "_law_take" "_law_take" (defArgs Rk.s_law_take) (defBody Rk.s_law_take) (defScope Rk.s_law_take) .none kV17 doc17 pm17 an17 cdv17 ct17), osl17⟩)
    (c17 : codeIn K cdv17 "_law_take" = true)
    (k17 : keepIn K (.ref f17) = true)
    {f18 : Addr} {oc18 kV18 doc18 pm18 cdv18 ct18 : Value} {od18 an18 : Option Addr} {osl18 : Array (Option Value)}
    (a18 : nsIn K mainGlobals "_law_of" = some (some (.ref f18)))
    (l18 : K.lookup f18 = some ⟨oc18, od18, .func (fnOf "_law_of" "_law_of" (defArgs Rk.s_law_of) (defBody Rk.s_law_of) (defScope Rk.s_law_of) .none kV18 doc18 pm18 an18 cdv18 ct18), osl18⟩)
    (c18 : codeIn K cdv18 "_law_of" = true)
    (k18 : keepIn K (.ref f18) = true)
    {f19 : Addr} {oc19 kV19 doc19 pm19 cdv19 ct19 : Value} {od19 an19 : Option Addr} {osl19 : Array (Option Value)}
    (a19 : nsIn K mainGlobals "_law_two" = some (some (.ref f19)))
    (l19 : K.lookup f19 = some ⟨oc19, od19, .func (fnOf "_law_two" "_law_two" (defArgs Rk.s_law_two) (defBody Rk.s_law_two) (defScope Rk.s_law_two) .none kV19 doc19 pm19 an19 cdv19 ct19), osl19⟩)
    (c19 : codeIn K cdv19 "_law_two" = true)
    (k19 : keepIn K (.ref f19) = true)
    {f20 : Addr} {oc20 kV20 doc20 pm20 cdv20 ct20 : Value} {od20 an20 : Option Addr} {osl20 : Array (Option Value)}
    (a20 : nsIn K mainGlobals "_law_lives" = some (some (.ref f20)))
    (l20 : K.lookup f20 = some ⟨oc20, od20, .func (fnOf "_law_lives" "_law_lives" (defArgs Rk.s_law_lives) (defBody Rk.s_law_lives) (defScope Rk.s_law_lives) .none kV20 doc20 pm20 an20 cdv20 ct20), osl20⟩)
    (c20 : codeIn K cdv20 "_law_lives" = true)
    (k20 : keepIn K (.ref f20) = true)
    {f21 : Addr} {oc21 kV21 doc21 pm21 cdv21 ct21 : Value} {od21 an21 : Option Addr} {osl21 : Array (Option Value)}
    (a21 : nsIn K mainGlobals "_law_ended" = some (some (.ref f21)))
    (l21 : K.lookup f21 = some ⟨oc21, od21, .func (fnOf "_law_ended" "_law_ended" (defArgs Rk.s_law_ended) (defBody Rk.s_law_ended) (defScope Rk.s_law_ended) .none kV21 doc21 pm21 an21 cdv21 ct21), osl21⟩)
    (c21 : codeIn K cdv21 "_law_ended" = true)
    (k21 : keepIn K (.ref f21) = true)
    {f22 : Addr} {oc22 kV22 doc22 pm22 cdv22 ct22 : Value} {od22 an22 : Option Addr} {osl22 : Array (Option Value)}
    (a22 : nsIn K mainGlobals "_law_enough" = some (some (.ref f22)))
    (l22 : K.lookup f22 = some ⟨oc22, od22, .func (fnOf "_law_enough" "_law_enough" (defArgs Rk.s_law_enough) (defBody Rk.s_law_enough) (defScope Rk.s_law_enough) .none kV22 doc22 pm22 an22 cdv22 ct22), osl22⟩)
    (c22 : codeIn K cdv22 "_law_enough" = true)
    (k22 : keepIn K (.ref f22) = true)
    {f23 : Addr} {oc23 kV23 doc23 pm23 cdv23 ct23 : Value} {od23 an23 : Option Addr} {osl23 : Array (Option Value)}
    (a23 : nsIn K mainGlobals "_law_gap" = some (some (.ref f23)))
    (l23 : K.lookup f23 = some ⟨oc23, od23, .func (fnOf "_law_gap" "_law_gap" (defArgs Rk.s_law_gap) (defBody Rk.s_law_gap) (defScope Rk.s_law_gap) .none kV23 doc23 pm23 an23 cdv23 ct23), osl23⟩)
    (c23 : codeIn K cdv23 "_law_gap" = true)
    (k23 : keepIn K (.ref f23) = true)
    {f24 : Addr} {oc24 kV24 doc24 pm24 cdv24 ct24 : Value} {od24 an24 : Option Addr} {osl24 : Array (Option Value)}
    (a24 : nsIn K mainGlobals "_law_index" = some (some (.ref f24)))
    (l24 : K.lookup f24 = some ⟨oc24, od24, .func (fnOf "_law_index" "_law_index" (defArgs Rk.s_law_index) (defBody Rk.s_law_index) (defScope Rk.s_law_index) .none kV24 doc24 pm24 an24 cdv24 ct24), osl24⟩)
    (c24 : codeIn K cdv24 "_law_index" = true)
    (k24 : keepIn K (.ref f24) = true)
    {f25 : Addr} {oc25 kV25 doc25 pm25 cdv25 ct25 : Value} {od25 an25 : Option Addr} {osl25 : Array (Option Value)}
    (a25 : nsIn K mainGlobals "_law_wish" = some (some (.ref f25)))
    (l25 : K.lookup f25 = some ⟨oc25, od25, .func (fnOf "_law_wish" "_law_wish" (defArgs Rk.s_law_wish) (defBody Rk.s_law_wish) (defScope Rk.s_law_wish) .none kV25 doc25 pm25 an25 cdv25 ct25), osl25⟩)
    (c25 : codeIn K cdv25 "_law_wish" = true)
    (k25 : keepIn K (.ref f25) = true)
    {f26 : Addr} {oc26 kV26 doc26 pm26 cdv26 ct26 : Value} {od26 an26 : Option Addr} {osl26 : Array (Option Value)}
    (a26 : nsIn K mainGlobals "_law_odd" = some (some (.ref f26)))
    (l26 : K.lookup f26 = some ⟨oc26, od26, .func (fnOf "_law_odd" "_law_odd" (defArgs Rk.s_law_odd) (defBody Rk.s_law_odd) (defScope Rk.s_law_odd) .none kV26 doc26 pm26 an26 cdv26 ct26), osl26⟩)
    (c26 : codeIn K cdv26 "_law_odd" = true)
    (k26 : keepIn K (.ref f26) = true)
    {f27 : Addr} {oc27 kV27 doc27 pm27 cdv27 ct27 : Value} {od27 an27 : Option Addr} {osl27 : Array (Option Value)}
    (a27 : nsIn K mainGlobals "_law_bent" = some (some (.ref f27)))
    (l27 : K.lookup f27 = some ⟨oc27, od27, .func (fnOf "_law_bent" "_law_bent" (defArgs Rk.s_law_bent) (defBody Rk.s_law_bent) (defScope Rk.s_law_bent) .none kV27 doc27 pm27 an27 cdv27 ct27), osl27⟩)
    (c27 : codeIn K cdv27 "_law_bent" = true)
    (k27 : keepIn K (.ref f27) = true)
    {f28 : Addr} {oc28 kV28 doc28 pm28 cdv28 ct28 : Value} {od28 an28 : Option Addr} {osl28 : Array (Option Value)}
    (a28 : nsIn K mainGlobals "_law_due" = some (some (.ref f28)))
    (l28 : K.lookup f28 = some ⟨oc28, od28, .func (fnOf "_law_due" "_law_due" (defArgs Rk.s_law_due) (defBody Rk.s_law_due) (defScope Rk.s_law_due) .none kV28 doc28 pm28 an28 cdv28 ct28), osl28⟩)
    (c28 : codeIn K cdv28 "_law_due" = true)
    (k28 : keepIn K (.ref f28) = true)
    {f29 : Addr} {oc29 kV29 doc29 pm29 cdv29 ct29 : Value} {od29 an29 : Option Addr} {osl29 : Array (Option Value)}
    (a29 : nsIn K mainGlobals "_law_great_right" = some (some (.ref f29)))
    (l29 : K.lookup f29 = some ⟨oc29, od29, .func (fnOf "_law_great_right" "_law_great_right" (defArgs Rk.s_law_great_right) (defBody Rk.s_law_great_right) (defScope Rk.s_law_great_right) .none kV29 doc29 pm29 an29 cdv29 ct29), osl29⟩)
    (c29 : codeIn K cdv29 "_law_great_right" = true)
    (k29 : keepIn K (.ref f29) = true)
    {f30 : Addr} {oc30 kV30 doc30 pm30 cdv30 ct30 : Value} {od30 an30 : Option Addr} {osl30 : Array (Option Value)}
    (a30 : nsIn K mainGlobals "_law_right" = some (some (.ref f30)))
    (l30 : K.lookup f30 = some ⟨oc30, od30, .func (fnOf "_law_right" "_law_right" (defArgs Rk.s_law_right) (defBody Rk.s_law_right) (defScope Rk.s_law_right) .none kV30 doc30 pm30 an30 cdv30 ct30), osl30⟩)
    (c30 : codeIn K cdv30 "_law_right" = true)
    (k30 : keepIn K (.ref f30) = true)
    {f31 : Addr} {oc31 kV31 doc31 pm31 cdv31 ct31 : Value} {od31 an31 : Option Addr} {osl31 : Array (Option Value)}
    (a31 : nsIn K mainGlobals "law" = some (some (.ref f31)))
    (l31 : K.lookup f31 = some ⟨oc31, od31, .func (fnOf "law" "law" (defArgs Rk.s_law) (defBody Rk.s_law) (defScope Rk.s_law) .none kV31 doc31 pm31 an31 cdv31 ct31), osl31⟩)
    (c31 : codeIn K cdv31 "law" = true)
    (k31 : keepIn K (.ref f31) = true)
    (z0 : nsIn K mainGlobals "len" = some none)
    (z1 : nsIn K mainGlobals "abs" = some none)
    (z2 : nsIn K mainGlobals "min" = some none)
    (z3 : nsIn K mainGlobals "max" = some none)
    (z4 : nsIn K mainGlobals "range" = some none)
    (z5 : nsIn K mainGlobals "all" = some none)
    (z6 : nsIn K mainGlobals "any" = some none)
    (z7 : nsIn K mainGlobals "repr" = some none)
    (z8 : nsIn K mainGlobals "tuple" = some none)
    (z9 : nsIn K mainGlobals "list" = some none)
    (z10 : nsIn K mainGlobals "sorted" = some none)
    (z11 : nsIn K mainGlobals "enumerate" = some none)
    (z12 : nsIn K mainGlobals "str" = some none)
    (z13 : nsIn K mainGlobals "zip" = some none)
    (z14 : nsIn K mainGlobals "isinstance" = some none)
    (z15 : nsIn K mainGlobals "int" = some none)
    (z16 : nsIn K mainGlobals "bool" = some none)
    (z17 : nsIn K mainGlobals "sum" = some none) :
    Rk.Has l.prog w K mg base 9 "law" ["_law_script"] (Rk.spLaw K) := by
  have T : Rk.Bl mg := ⟨mg_none_of X G z0, mg_none_of X G z1, mg_none_of X G z2, mg_none_of X G z3, mg_none_of X G z4, mg_none_of X G z5, mg_none_of X G z6, mg_none_of X G z7, mg_none_of X G z8, mg_none_of X G z9, mg_none_of X G z10, mg_none_of X G z11, mg_none_of X G z12, mg_none_of X G z13, mg_none_of X G z14, mg_none_of X G z15, mg_none_of X G z16, mg_none_of X G z17⟩
  have D1 : Rk.Df K mg "is_natural" Rk.s_is_natural ["value"] := Rk.df_mk X G a1 l1 c1 k1 fun _ _ _ _ _ _ us hl => match us, hl with | [_], _ => rfl
  have D2 : Rk.Df K mg "is_pair" Rk.s_is_pair ["value"] := Rk.df_mk X G a2 l2 c2 k2 fun _ _ _ _ _ _ us hl => match us, hl with | [_], _ => rfl
  have D3 : Rk.Df K mg "at_most" Rk.s_at_most ["one", "other"] := Rk.df_mk X G a3 l3 c3 k3 fun _ _ _ _ _ _ us hl => match us, hl with | [_, _], _ => rfl
  have D4 : Rk.Df K mg "lesser" Rk.s_lesser ["one", "other"] := Rk.df_mk X G a4 l4 c4 k4 fun _ _ _ _ _ _ us hl => match us, hl with | [_, _], _ => rfl
  have D5 : Rk.Df K mg "greater" Rk.s_greater ["one", "other"] := Rk.df_mk X G a5 l5 c5 k5 fun _ _ _ _ _ _ us hl => match us, hl with | [_, _], _ => rfl
  have D6 : Rk.Df K mg "restore_point" Rk.s_restore_point ["rule", "tick", "age"] := Rk.df_mk X G a6 l6 c6 k6 fun _ _ _ _ _ _ us hl => match us, hl with | [_, _, _], _ => rfl
  have D7 : Rk.Df K mg "distance" Rk.s_distance ["rule", "tick", "age"] := Rk.df_mk X G a7 l7 c7 k7 fun _ _ _ _ _ _ us hl => match us, hl with | [_, _, _], _ => rfl
  have D8 : Rk.Df K mg "_bands" Rk.s_bands ["rule", "tick"] := Rk.df_mk X G a8 l8 c8 k8 fun _ _ _ _ _ _ us hl => match us, hl with | [_, _], _ => rfl
  have D9 : Rk.Df K mg "shortest" Rk.s_shortest ["lives"] := Rk.df_mk X G a9 l9 c9 k9 fun _ _ _ _ _ _ us hl => match us, hl with | [_], _ => rfl
  have D10 : Rk.Df K mg "worst" Rk.s_worst ["rule", "age"] := Rk.df_mk X G a10 l10 c10 k10 fun _ _ _ _ _ _ us hl => match us, hl with | [_, _], _ => rfl
  have D11 : Rk.Df K mg "worst_tick" Rk.s_worst_tick ["rule", "age"] := Rk.df_mk X G a11 l11 c11 k11 fun _ _ _ _ _ _ us hl => match us, hl with | [_, _], _ => rfl
  have D12 : Rk.Df K mg "promised" Rk.s_promised ["rule"] := Rk.df_mk X G a12 l12 c12 k12 fun _ _ _ _ _ _ us hl => match us, hl with | [_], _ => rfl
  have D13 : Rk.Df K mg "first_broken" Rk.s_first_broken ["rule", "wish"] := Rk.df_mk X G a13 l13 c13 k13 fun _ _ _ _ _ _ us hl => match us, hl with | [_, _], _ => rfl
  have D14 : Rk.Df K mg "shows_broken" Rk.s_shows_broken ["rule", "wish", "value"] := Rk.df_mk X G a14 l14 c14 k14 fun _ _ _ _ _ _ us hl => match us, hl with | [_, _, _], _ => rfl
  have D15 : Rk.Df K mg "_first_beyond" Rk.s_first_beyond ["rule", "wished"] := Rk.df_mk X G a15 l15 c15 k15 fun _ _ _ _ _ _ us hl => match us, hl with | [_, _], _ => rfl
  have D16 : Rk.Df K mg "_law_pot" Rk.s_law_pot ["_law_script", "_law_k"] := Rk.df_mk X G a16 l16 c16 k16 fun _ _ _ _ _ _ us hl => match us, hl with | [_, _], _ => rfl
  have D17 : Rk.Df K mg "_law_take" Rk.s_law_take ["_law_pot_here", "_law_many"] := Rk.df_mk X G a17 l17 c17 k17 fun _ _ _ _ _ _ us hl => match us, hl with | [_, _], _ => rfl
  have D18 : Rk.Df K mg "_law_of" Rk.s_law_of ["_law_pot_here", "_law_some"] := Rk.df_mk X G a18 l18 c18 k18 fun _ _ _ _ _ _ us hl => match us, hl with | [_, _], _ => rfl
  have D19 : Rk.Df K mg "_law_two" Rk.s_law_two ["_law_index_here"] := Rk.df_mk X G a19 l19 c19 k19 fun _ _ _ _ _ _ us hl => match us, hl with | [_], _ => rfl
  have D20 : Rk.Df K mg "_law_lives" Rk.s_law_lives ["_law_pot_here", "_law_many", "_law_great"] := Rk.df_mk X G a20 l20 c20 k20 fun _ _ _ _ _ _ us hl => match us, hl with | [_, _, _], _ => rfl
  have D21 : Rk.Df K mg "_law_ended" Rk.s_law_ended ["_law_pot_here", "_law_lives_here"] := Rk.df_mk X G a21 l21 c21 k21 fun _ _ _ _ _ _ us hl => match us, hl with | [_, _], _ => rfl
  have D22 : Rk.Df K mg "_law_enough" Rk.s_law_enough ["_law_life", "_law_number"] := Rk.df_mk X G a22 l22 c22 k22 fun _ _ _ _ _ _ us hl => match us, hl with | [_, _], _ => rfl
  have D23 : Rk.Df K mg "_law_gap" Rk.s_law_gap ["_law_lives_here", "_law_time", "_law_age"] := Rk.df_mk X G a23 l23 c23 k23 fun _ _ _ _ _ _ us hl => match us, hl with | [_, _, _], _ => rfl
  have D24 : Rk.Df K mg "_law_index" Rk.s_law_index ["_law_lives_here", "_law_age"] := Rk.df_mk X G a24 l24 c24 k24 fun _ _ _ _ _ _ us hl => match us, hl with | [_, _], _ => rfl
  have D25 : Rk.Df K mg "_law_wish" Rk.s_law_wish ["_law_pot_here", "_law_many", "_law_great", "_law_far"] := Rk.df_mk X G a25 l25 c25 k25 fun _ _ _ _ _ _ us hl => match us, hl with | [_, _, _, _], _ => rfl
  have D26 : Rk.Df K mg "_law_odd" Rk.s_law_odd ["_law_pot_here"] := Rk.df_mk X G a26 l26 c26 k26 fun _ _ _ _ _ _ us hl => match us, hl with | [_], _ => rfl
  have D27 : Rk.Df K mg "_law_bent" Rk.s_law_bent ["_law_pot_here", "_law_value"] := Rk.df_mk X G a27 l27 c27 k27 fun _ _ _ _ _ _ us hl => match us, hl with | [_, _], _ => rfl
  have D28 : Rk.Df K mg "_law_due" Rk.s_law_due ["_law_lives_here", "_law_wish_here", "_law_value"] := Rk.df_mk X G a28 l28 c28 k28 fun _ _ _ _ _ _ us hl => match us, hl with | [_, _, _], _ => rfl
  have D29 : Rk.Df K mg "_law_great_right" Rk.s_law_great_right ["_law_pot_here"] := Rk.df_mk X G a29 l29 c29 k29 fun _ _ _ _ _ _ us hl => match us, hl with | [_], _ => rfl
  have D30 : Rk.Df K mg "_law_right" Rk.s_law_right ["_law_pot_here"] := Rk.df_mk X G a30 l30 c30 k30 fun _ _ _ _ _ _ us hl => match us, hl with | [_], _ => rfl
  have D31 : Rk.Df K mg "law" Rk.s_law ["_law_script"] := Rk.df_mk X G a31 l31 c31 k31 fun _ _ _ _ _ _ us hl => match us, hl with | [_], _ => rfl
  have FI := fun_mk (st := Rk.s_Rule___init__) lI cI kI
  have FA := fun_mk (st := Rk.s_Rule_are_lives) lA cA kA
  have FO := fun_mk (st := Rk.s_Rule_of) lO cO kO
  have FK := fun_mk (st := Rk.s_Rule___call__) lK cK kK
  have FLv := fun_mk (st := Rk.s_Rule_lives) lLv cLv kLv
  have bA := FA.binds (ps := ["value"]) fun _ _ _ _ _ _ us hl => match us, hl with | [_], _ => rfl
  have R : Rk.RuleT K mg C CR (.type "type") fI pA fA _ := ⟨⟨q1, q2, q3, q4⟩, ⟨q5, aI, q6, q7⟩, q8, mg_of X G aC, mg_of X G aR, ⟨_, mg_of X G aL⟩, ⟨q9, r1⟩, ⟨_, r2, ⟨_, rfl⟩⟩, ⟨aA, ⟨_, xA⟩, rfl, kA⟩, bA, r7, r8⟩
  exact Rk.all_mk (l := l) (w := w) (base := base) T R FI FA FO ⟨aO, ⟨_, xO⟩, r4⟩ FK ⟨aK, r5, r6⟩ ⟨aLv, gLv, tLv, ⟨_, xLv⟩⟩ FLv D1 D2 D3 D4 D5 D6 D7 D8 D9 D10 D11 D12 D13 D14 D15 D16 D17 D18 D19 D20 D21 D22 D23 D24 D25 D26 D27 D28 D29 D30 D31
open PySem PySem.W PyProof.Rows in
set_option maxRecDepth 100000 in
set_option maxHeartbeats 0 in
theorem PySem.Challenge.cw_rulerkeep_k22_broken_ages_of_any_value_holds : PySem.Challenge.rw_rulerkeep_k22_broken_ages_of_any_value.Holds := by
  w_on; o_law; k_head; (case hw => w_witness2)
  k_fill
  refine Rk.walkG (l := PySem.Challenge.rw_rulerkeep_k22_broken_ages_of_any_value) (n := 63) (k := 9) (x := "_law_script") (sp := Rk.spLaw) rfl (by decide) rfl ⟨rfl, by decide, by decide⟩ (fun w h Y => PySem.W.kIn_of Y) ?F (fun _ _ a ns hl _ hS => ⟨a, ns, rfl, hS, hl, fun _ => rfl⟩)
  case F =>
    intro w mg h KX G base _ _
    refine' Rk.end_mk KX G ?aC ?aR ?aL ?aI ?aA ?xA ?aO ?xO ?aLv ?gLv ?tLv ?xLv ?aK ?lI ?cI ?kI ?lA ?cA ?kA ?lO ?cO ?kO ?lK ?cK ?kK ?lLv ?cLv ?kLv ?q1 ?q2 ?q3 ?q4 ?q5 ?q6 ?q7 ?q8 ?q9 ?r1 ?r2 ?r4 ?r5 ?r6 ?r7 ?r8 ?a1 ?l1 ?c1 ?k1 ?a2 ?l2 ?c2 ?k2 ?a3 ?l3 ?c3 ?k3 ?a4 ?l4 ?c4 ?k4 ?a5 ?l5 ?c5 ?k5 ?a6 ?l6 ?c6 ?k6 ?a7 ?l7 ?c7 ?k7 ?a8 ?l8 ?c8 ?k8 ?a9 ?l9 ?c9 ?k9 ?a10 ?l10 ?c10 ?k10 ?a11 ?l11 ?c11 ?k11 ?a12 ?l12 ?c12 ?k12 ?a13 ?l13 ?c13 ?k13 ?a14 ?l14 ?c14 ?k14 ?a15 ?l15 ?c15 ?k15 ?a16 ?l16 ?c16 ?k16 ?a17 ?l17 ?c17 ?k17 ?a18 ?l18 ?c18 ?k18 ?a19 ?l19 ?c19 ?k19 ?a20 ?l20 ?c20 ?k20 ?a21 ?l21 ?c21 ?k21 ?a22 ?l22 ?c22 ?k22 ?a23 ?l23 ?c23 ?k23 ?a24 ?l24 ?c24 ?k24 ?a25 ?l25 ?c25 ?k25 ?a26 ?l26 ?c26 ?k26 ?a27 ?l27 ?c27 ?k27 ?a28 ?l28 ?c28 ?k28 ?a29 ?l29 ?c29 ?k29 ?a30 ?l30 ?c30 ?k30 ?a31 ?l31 ?c31 ?k31 ?z0 ?z1 ?z2 ?z3 ?z4 ?z5 ?z6 ?z7 ?z8 ?z9 ?z10 ?z11 ?z12 ?z13 ?z14 ?z15 ?z16 ?z17
    (case aC => k_is)
    (case aR => k_is)
    (case aL => k_is)
    (case aI => k_is)
    (case aA => k_is)
    (case xA => k_is)
    (case aO => k_is)
    (case xO => k_is)
    (case aLv => k_is)
    (case gLv => k_is)
    (case tLv => k_is)
    (case xLv => k_is)
    (case aK => k_is)
    (case lI => k_is)
    (case cI => k_is)
    (case kI => k_is)
    (case lA => k_is)
    (case cA => k_is)
    (case kA => k_is)
    (case lO => k_is)
    (case cO => k_is)
    (case kO => k_is)
    (case lK => k_is)
    (case cK => k_is)
    (case kK => k_is)
    (case lLv => k_is)
    (case cLv => k_is)
    (case kLv => k_is)
    (case q1 => k_is)
    (case q2 => k_is)
    (case q3 => k_is)
    (case q4 => k_is)
    (case q5 => k_is)
    (case q6 => k_is)
    (case q7 => k_is)
    (case q8 => k_is)
    (case q9 => k_is)
    (case r1 => k_is)
    (case r2 => k_is)
    (case r4 => k_is)
    (case r5 => k_is)
    (case r6 => k_is)
    (case r7 => kit_is)
    (case r8 => kit_is)
    (case a1 => k_is)
    (case l1 => k_is)
    (case c1 => k_is)
    (case k1 => k_is)
    (case a2 => k_is)
    (case l2 => k_is)
    (case c2 => k_is)
    (case k2 => k_is)
    (case a3 => k_is)
    (case l3 => k_is)
    (case c3 => k_is)
    (case k3 => k_is)
    (case a4 => k_is)
    (case l4 => k_is)
    (case c4 => k_is)
    (case k4 => k_is)
    (case a5 => k_is)
    (case l5 => k_is)
    (case c5 => k_is)
    (case k5 => k_is)
    (case a6 => k_is)
    (case l6 => k_is)
    (case c6 => k_is)
    (case k6 => k_is)
    (case a7 => k_is)
    (case l7 => k_is)
    (case c7 => k_is)
    (case k7 => k_is)
    (case a8 => k_is)
    (case l8 => k_is)
    (case c8 => k_is)
    (case k8 => k_is)
    (case a9 => k_is)
    (case l9 => k_is)
    (case c9 => k_is)
    (case k9 => k_is)
    (case a10 => k_is)
    (case l10 => k_is)
    (case c10 => k_is)
    (case k10 => k_is)
    (case a11 => k_is)
    (case l11 => k_is)
    (case c11 => k_is)
    (case k11 => k_is)
    (case a12 => k_is)
    (case l12 => k_is)
    (case c12 => k_is)
    (case k12 => k_is)
    (case a13 => k_is)
    (case l13 => k_is)
    (case c13 => k_is)
    (case k13 => k_is)
    (case a14 => k_is)
    (case l14 => k_is)
    (case c14 => k_is)
    (case k14 => k_is)
    (case a15 => k_is)
    (case l15 => k_is)
    (case c15 => k_is)
    (case k15 => k_is)
    (case a16 => k_is)
    (case l16 => k_is)
    (case c16 => k_is)
    (case k16 => k_is)
    (case a17 => k_is)
    (case l17 => k_is)
    (case c17 => k_is)
    (case k17 => k_is)
    (case a18 => k_is)
    (case l18 => k_is)
    (case c18 => k_is)
    (case k18 => k_is)
    (case a19 => k_is)
    (case l19 => k_is)
    (case c19 => k_is)
    (case k19 => k_is)
    (case a20 => k_is)
    (case l20 => k_is)
    (case c20 => k_is)
    (case k20 => k_is)
    (case a21 => k_is)
    (case l21 => k_is)
    (case c21 => k_is)
    (case k21 => k_is)
    (case a22 => k_is)
    (case l22 => k_is)
    (case c22 => k_is)
    (case k22 => k_is)
    (case a23 => k_is)
    (case l23 => k_is)
    (case c23 => k_is)
    (case k23 => k_is)
    (case a24 => k_is)
    (case l24 => k_is)
    (case c24 => k_is)
    (case k24 => k_is)
    (case a25 => k_is)
    (case l25 => k_is)
    (case c25 => k_is)
    (case k25 => k_is)
    (case a26 => k_is)
    (case l26 => k_is)
    (case c26 => k_is)
    (case k26 => k_is)
    (case a27 => k_is)
    (case l27 => k_is)
    (case c27 => k_is)
    (case k27 => k_is)
    (case a28 => k_is)
    (case l28 => k_is)
    (case c28 => k_is)
    (case k28 => k_is)
    (case a29 => k_is)
    (case l29 => k_is)
    (case c29 => k_is)
    (case k29 => k_is)
    (case a30 => k_is)
    (case l30 => k_is)
    (case c30 => k_is)
    (case k30 => k_is)
    (case a31 => k_is)
    (case l31 => k_is)
    (case c31 => k_is)
    (case k31 => k_is)
    (case z0 => k_is)
    (case z1 => k_is)
    (case z2 => k_is)
    (case z3 => k_is)
    (case z4 => k_is)
    (case z5 => k_is)
    (case z6 => k_is)
    (case z7 => k_is)
    (case z8 => k_is)
    (case z9 => k_is)
    (case z10 => k_is)
    (case z11 => k_is)
    (case z12 => k_is)
    (case z13 => k_is)
    (case z14 => k_is)
    (case z15 => k_is)
    (case z16 => k_is)
    (case z17 => k_is)
