import PyProof.Rows.All
import Wide.All
import OpenK.AllK
import Wide.FinOn
import HandS.ForMost
import HandS.IsInst
import HandS.Wide
import PyProof.ReprRoads
import PyProof.StrReplace2
import PyProof.ToksMono
import HandS.Walk
import HandS.Replace
import PyProof.Rows.StrSplitAre
import PyProof.StrLawsChain
import PyProof.StrBlock2
import PyProof.Rows.StrSplitJoin
import PyProof.StrLawsReplace
import PyProof.Rows.StrItems
import PyProof.Rows.StrSplitCount
import PySem.Challenge.RW_termshelf_k04_words_and_rows_parted
set_option Elab.async false
set_option linter.all false
set_option maxRecDepth 100000
set_option maxHeartbeats 2000000
/-! The part that every law of the package shares: readings by steps, the bag of draws, repr, a def that may lean on the guards. -/
namespace Jg
open PySem PySem.Spec PyProof.Rows L2

/-! ### a def whose promise holds where no repr runs around it -/
structure FnG (P : Program) (w : World) (K : PySem.W.Frag) (mg : Str → Option Value) (base : Heap) (k : Nat) (f : Addr) (fd : FuncData) (ps : List Str) (sp : Sp) : Prop where
  many : ∀ vs H Q E, sp vs H Q E → vs.length = ps.length
  go : ∀ (A : Around) (outer : List Env) (s : Shared) (H : Hp) (args : Args) (us : List Value) (vs : List V) (Q : VK) (E : XK),
    Room k A → A.guards = some [] → Env0 P w K mg base A outer s H → BindsTo s fd args (ps.zip us) → Vals vs us → sp vs H Q E →
    codeAny (model P w) A (.call (.ref f) args) (CR CX0 outer P w H s Q E) s

theorem deeper_guards (A : Around) (env : Env) : (A.deeper env).guards = A.guards := rfl

section
variable {P : Program} {w : World} {K : PySem.W.Frag} {mg : Str → Option Value} {base : Heap}
/-- such a def by its body -/
theorem fnG_of {x qual : Str} {st : Stmt} {f : Addr} {fd : FuncData} {N ps : List Str} {k : Nat} {sp : Sp} (F : Fun K x qual st f fd) (S : FnScope N ps (defScope st))
    (len : ∀ vs H Q E, sp vs H Q E → vs.length = ps.length)
    (body : ∀ (cdv : Value) (A : Around) (outer : List Env) (s : Shared) (H : Hp) (vs : List V) (Q : VK) (E : XK),
      Room k (A.deeper (envOfC qual (defScope st) s.heap.objs.size f cdv)) → A.guards = some [] → sp vs H Q E →
      ∃ t, PSs (cxOf CX0 P w K mg base N qual (defScope st) f cdv A outer s H E).nox (defBody st) t ∧ t { nx := fun _ H' => Q .non H', rt := Q } (start N vs) H) :
    FnG P w K mg base (k + 1) f fd ps sp := by
  obtain ⟨oc, od, kV, doc, pm, an, cdv, ct, osl, efd, lk, hcd⟩ := F.ex
  subst efd
  refine ⟨len, fun A outer s H args us vs Q E room gua env bnd rel want => ?_⟩
  -- the promise at these guards alone, as one that any surroundings keep
  have hl := len _ _ _ _ want
  have kin : K.In s.heap := env.mod.kin.keeps fun b o e => (env.bs b o e).1
  have lim : s.heap.NoLimit := env.mod.nolimit.keeps fun b o e => (env.bs b o e).1
  have kinds : ∀ y ∈ ps.zip us, (defScope st).names.lookup y.1 = some .local ∨ ((defScope st).names.lookup y.1 = some .cell ∧ ((cellsFrom (s.heap.objs.size + 1) (defScope st).names []).lookup y.1).isSome = true) := by
    intro y hy
    obtain ⟨n, v⟩ := y
    have hp := S.par n (List.of_mem_zip hy).1
    cases hp with
    | inl q => exact Or.inl q
    | inr q => exact Or.inr ⟨q, PySem.W.cellsFrom_some _ _ _ (Or.inl q)⟩
  refine codeAny_call_function room.depth (kin _ _ lk) rfl S.co S.gen rfl (PySem.W.codeRec_of kin hcd) (bnd _ _ _ _ ?_)
  refine wpAny_newFunctionEnv_cells S.kind kinds ?_
  intro e2 he2 s1 x
  subst he2
  refine ⟨lim.keeps x.toInCall.keep, codeAny_func ?_⟩
  obtain ⟨t, ht, hq⟩ := body cdv A outer s H vs Q E (room.deeper _) gua want
  have I := inv_start (CX := CX0) (qual := qual) (f := f) (cd := cdv) (E := E) S room.hd env hl rel x
  refine wpAny_mono (ht.nox.run [] s1 (start N vs) H _ I hq) ?_ (fun e s' hs => hs)
  intro fl s' hs
  cases fl with
  | ret u =>
    obtain ⟨v, σ', H', J, rv, q⟩ := hs
    exact ⟨v, H', J.os, J.bare, J.base, J.hok, rv, q⟩
  | next =>
    obtain ⟨σ', H', J, q⟩ := hs
    exact ⟨V.non, H', J.os, J.bare, J.base, J.hok, rfl, q⟩
  | brk =>
    obtain ⟨σ', H', J, q⟩ := hs
    exact False.elim q
  | cont =>
    obtain ⟨σ', H', J, q⟩ := hs
    exact False.elim q
theorem FnG.of {k : Nat} {f : Addr} {fd : FuncData} {ps : List Str} {sp : Sp} (F : FnOk P w K mg base CX0 k f fd ps sp) : FnG P w K mg base k f fd ps sp :=
  ⟨F.len, fun A outer s H args us vs Q E room _ env bnd rel want => F.run A outer s H args us vs Q E room env bnd rel want⟩
end

section
variable {X : Cx} {k : Nat} {f : Addr} {fd : FuncData} {ps : List Str} {sp : Sp} {dvs : List V} {ds : List Value} {x : Str} {p pos : Pos} {e : Expr} {es : List Expr} {t : TA}
/-- f(..) of such a def -/
theorem pe_callG (F : FnG X.prog X.w X.K X.mg X.base k f fd ps sp) (room : Room k X.A) (gua : X.A.guards = some []) (hg : Gl X x) (hm : X.mg x = some (.ref f)) (hk : PySem.W.keepIn X.K (.ref f) = true)
    (hb : Binds X.K fd ps ds) (hd : Vals dvs ds) (args : PA X (e :: es) t) (hdb : (x == ("__debug__" : Str)) = false := by decide)
    (he : starEach (e :: es) X.env = (false, eval e X.env) :: starEach es X.env := by rfl) (hpl : (backTo pos (starEach es X.env)).any (·.1) = false := by rfl) :
    PE X (.Call (.Name x p) (e :: es) [] pos) (tCall sp dvs E0 t) := by
  constructor
  intro pins s σ H Q I h
  refine wpAny_Call_Name_kw (ld_glob I hg hm ?_ hdb)
  refine PySem.W.callWith_K (h₀ := X.base) I.ok.mod.kin hk (thn (args.run pos pins s σ H _ I h) ?_) he hpl
  rintro us s1 ⟨vs, H1, I1, rel, want⟩
  refine ⟨I1.kIn, ?_⟩
  have rel2 : Vals (vs ++ dvs) (us ++ ds) := rel.append hd
  have hl : (us ++ ds).length = ps.length := by
    rw [← rel2.length]
    exact F.many _ _ _ _ want
  refine wpAny_call (codeAny_mono (F.go X.A X.stack s1 H1 ⟨us, []⟩ (us ++ ds) (vs ++ dvs) Q E0 room gua I1.env0 (hb s1 us I1.kIn hl) rel2 want) ?_)
  intro r s' hq
  cases r with
  | error e => exact False.elim hq
  | ok fl =>
    cases fl with
    | ret u => exact I1.after hq
    | next => exact False.elim hq
    | brk => exact False.elim hq
    | cont => exact False.elim hq
end
end Jg
namespace Jg
open PySem PySem.Spec PyProof.Rows L2

theorem ns_hid {h : Heap} {H : Hp} {b : Addr} {m : Str → Option Value} (free : ∀ o es ep, h.get? b = some o → o.data = .dict es ep → H b = none) (n : h.Ns b m) : (hidT h H).Ns b m := by
  obtain ⟨o, es, ep, e, d, r⟩ := n
  exact ⟨o, es, ep, hidT_get e (free o es ep e d), d, r⟩
/-- the law's own call where the heap H speaks of the script alone -/
theorem call_at {P : Program} {w : World} {K : PySem.W.Frag} {mg mb : Str → Option Value} {k : Nat} {fa a : Addr} {fd : FuncData} {x : Str} {sp : Sp} {s : Shared} {items : Array Value} {H : Hp}
    (kin : K.In s.heap) (glob : s.heap.Ns mainGlobals mg) (bt : s.heap.Ns builtinsNs mb) (same : ∀ x : Str, x ≠ "__name__" → mb x = bootBuiltins x) (lim : s.heap.NoLimit) (gens : s.gens = #[])
    (scr : s.heap.get? a = some { cls := .type "list", data := .seq items }) (room : Room k callerA)
    (F : ∀ base : Heap, K.In base → base.Ns mainGlobals mg → FnG P w K mg base k fa fd [x] sp) (bnd : ∀ (s : Shared) (u : Value), BindsTo s fd ⟨[u], []⟩ [(x, u)])
    (only : Only H) (ok : HOk P w H s.heap) (here : ∀ b, H b ≠ none → b = a) (apart : H a ≠ none → K.lookup a = none)
    (want : sp [.ref a] H (fun v _ => v = .bl true) fun _ _ _ => False) :
    codeAny (model P w) callerA (.call (.ref fa) ⟨[.ref a], []⟩) (fun r s' => r = .ok (.ret (.bool true)) ∧ OldK s.heap s'.heap ∧ s'.os = s.os ∧ AllBare s'.gens) s := by
  have noDict : ∀ {b : Addr} {o : Obj} {es : Array DictEntry} {ep : Nat}, s.heap.get? b = some o → o.data = .dict es ep → H b = none := by
    intro b o es ep e d
    by_cases z : H b = none
    · exact z
    · have eb := here b z
      subst eb
      rw [scr] at e
      cases e
      cases d
  have base : Env0 P w K mg (hidT s.heap H) callerA [] s H := by
    refine ⟨rfl, ⟨?_, ns_hid (fun _ _ _ => noDict) glob, ⟨mb, ns_hid (fun _ _ _ => noDict) bt, same⟩, ?_⟩, fun b o e => of_hidT e, Nat.le_of_eq (hidT_size _ _), trivial, ?_, ok, .of_eq gens⟩
    · intro b o e
      refine hidT_get (kin b o e) ?_
      by_cases z : H b = none
      · exact z
      · have eb := here b z
        subst eb
        rw [apart z] at e
        cases e
    · obtain ⟨m, h1, h2⟩ := lim
      exact ⟨m, ns_hid (fun _ _ _ => noDict) h1, h2⟩
    · intro b hb
      exact absurd hb (List.not_mem_nil)
  refine codeAny_mono ((F _ base.mod.kin (ns_hid (fun _ _ _ => noDict) glob)).go callerA [] s H ⟨[.ref a], []⟩ [.ref a] [.ref a] _ _ room rfl base (bnd s (.ref a)) (.cons rfl .nil) want) ?_
  intro r s' h
  cases r with
  | error e => exact False.elim h
  | ok fl =>
    cases fl with
    | next => exact False.elim h
    | brk => exact False.elim h
    | cont => exact False.elim h
    | ret u =>
      obtain ⟨v, H', os, bare, un, ok', rel, q⟩ := h
      have q' : v = .bl true := q
      subst q'
      obtain rfl : u = Value.bool true := rel
      refine ⟨rfl, OldK.of_keep ?_, os, bare⟩
      intro b o e
      by_cases z : H b = none
      · exact un.keep b o e z (List.not_mem_nil) (List.not_mem_nil)
      · rcases only b with z2 | ⟨ob, xs, z2⟩
        · exact absurd z2 z
        · have z3 := un.frzs b ob _ z2
          have e1 := (ok b _ z2).1
          have e2 := (ok' b _ z3).1
          rw [e] at e1
          cases e1
          exact e2

theorem call_law {P : Program} {w : World} {K : PySem.W.Frag} {mg mb : Str → Option Value} {k : Nat} {fa a : Addr} {fd : FuncData} {x : Str} {sp : Sp} {s : Shared} {vs : List Value} {ns : List Int}
    (kin : K.In s.heap) (glob : s.heap.Ns mainGlobals mg) (bt : s.heap.Ns builtinsNs mb) (same : ∀ x : Str, x ≠ "__name__" → mb x = bootBuiltins x) (lim : s.heap.NoLimit) (gens : s.gens = #[])
    (scr : s.heap.get? a = some { cls := .type "list", data := .seq vs.toArray }) (hin : IntsAre vs ns) (len : ns.length ≤ sizeLine) (room : Room k callerA)
    (F : ∀ base : Heap, K.In base → base.Ns mainGlobals mg → FnG P w K mg base k fa fd [x] sp) (bnd : ∀ (s : Shared) (u : Value), BindsTo s fd ⟨[u], []⟩ [(x, u)])
    (want : ∀ H : Hp, Only H → SqL K H a (ns.map V.int) → sp [.ref a] H (fun v _ => v = .bl true) fun _ _ _ => False) :
    codeAny (model P w) callerA (.call (.ref fa) ⟨[.ref a], []⟩) (fun r s' => r = .ok (.ret (.bool true)) ∧ OldK s.heap s'.heap ∧ s'.os = s.os ∧ AllBare s'.gens) s := by
  have rel : Vals (ns.map V.int) vs := vals_ints hin
  have lenM : (ns.map V.int).length ≤ sizeLine := by
    rw [List.length_map]
    exact len
  by_cases hk : K.lookup a = none
  · let o : Obj := { cls := .type "list", data := .seq vs.toArray }
    let H : Hp := fun b => if b = a then some (.frz o (.lst (ns.map V.int))) else none
    have at_a : H a = some (.frz o (.lst (ns.map V.int))) := if_pos rfl
    have off : ∀ b, b ≠ a → H b = none := fun b hb => if_neg hb
    have on : Only H := by
      intro b
      by_cases hb : b = a
      · subst hb
        exact Or.inr ⟨_, _, at_a⟩
      · exact Or.inl (off b hb)
    have ok : HOk P w H s.heap := by
      intro b u e
      by_cases hb : b = a
      · subst hb
        rw [at_a] at e
        cases e
        exact ⟨scr, lenM, vs, _, rel, scr⟩
      · rw [off b hb] at e
        cases e
    have here : ∀ b, H b ≠ none → b = a := by
      intro b z
      by_cases hb : b = a
      · exact hb
      · exact absurd (off b hb) z
    exact call_at kin glob bt same lim gens scr room F bnd on ok here (fun _ => hk) (want H on (Or.inl (Or.inr ⟨o, at_a⟩)))
  · obtain ⟨o, ho⟩ := Option.ne_none_iff_exists'.mp hk
    have e := kin a o ho
    rw [scr] at e
    cases e
    let H : Hp := fun _ => none
    have on : Only H := fun _ => Or.inl rfl
    have ok : HOk P w H s.heap := fun b u e => by cases e
    have sq : SqL K H a (ns.map V.int) := Or.inr ⟨_, vs.toArray, _, ho, rfl, rfl, rfl, by rw [List.size_toArray, ← rel.length]; exact lenM, by simpa using rel⟩
    exact call_at kin glob bt same lim gens scr room F bnd on ok (fun b z => absurd rfl z) (fun z => absurd rfl z) (want H on sq)

/-- the goal behind the head, from the law's promise -/
theorem walkG {l : PySem.W.OpenLaw} {n k : Nat} {q : Program} {loose : List Str} {XP : (Str → Option Value) → Heap → Prop} {YP : World → Heap → Prop} {d : DefRec} {K : Params → PySem.W.Frag} {sp : PySem.W.Frag → Sp} {x : Str}
    (hn : l.most = some n) (hn2 : n ≤ sizeLine) (hdf : d.params.defaults = []) (room : Room k callerA)
    (hY : ∀ (w : World) (h : Heap), YP w h → (K w.params).In h)
    (F : ∀ (w : World) (mg : Str → Option Value) (fa : Addr) (h : Heap), (K w.params).In h → h.Ns mainGlobals mg → mg d.name = some (.ref fa) →
      ∃ fd : FuncData, (∀ (s : Shared) (u : Value), BindsTo s fd ⟨[u], []⟩ [(x, u)]) ∧
        ∀ base : Heap, (K w.params).In base → base.Ns mainGlobals mg → FnG l.prog w (K w.params) mg base k fa fd [x] (sp (K w.params)))
    (want : ∀ (K : PySem.W.Frag) (H : Hp) (a : Addr) (ns : List Int), ns.length ≤ n → Only H → SqL K H a (ns.map V.int) → sp K [.ref a] H (fun v _ => v = .bl true) fun _ _ _ => False) :
    PySem.W.WalkO q loose XP YP l.row.toRowW d [] (fun f vs => PySem.call f vs) := by
  refine Att.attach_call hn hdf ?_
  intro w s₀ s₁ mg mb fa o pm cd doc a vs ns G Y ho hd hcd hmg hobj hints hlen hg
  have kin := hY w _ Y
  obtain ⟨fd, hb, hF⟩ := F w mg fa _ kin G.T.g hmg
  exact call_law kin G.T.g G.T.b G.T.builtins G.T.nolimit hg hobj hints (Nat.le_trans hlen hn2) room hF hb fun H on sq => want (K w.params) H a ns hlen on sq
end Jg
namespace Jg
open PySem PySem.Spec PyProof.Rows L2
/-! ### repr of data -/
def rRepr (K : PySem.W.Frag) : List V → Hp → VK → Prop := fun xs H Q => ∃ x d, xs = [x] ∧ Dp K H x d ∧ d.showable = true ∧ d.hasDict = false ∧ d.depth ≤ 60 ∧ d.shown.length ≤ sizeLine ∧ Q (.str d.shown) H
theorem call_repr {X : Cx} {K : PySem.W.Frag} (gua : X.A.guards = some []) (hu : X.A.units + 64 < cLine) (hK : X.K = K := by rfl) : CallR X (.builtin "repr") (rRepr K) := by
  subst hK
  intro pins s σ H xs us Q I rel h
  obtain ⟨x, d, rfl, hd, sh, nd, dp, sz, q⟩ := h
  obtain ⟨u, rfl, ru⟩ := vals1 rel
  obtain ⟨as, rd⟩ := Dp.reads I d x u hd ru
  have leaf : ∀ tk, EP X pins σ Q (.str d.shown tk) { s with toks := s.toks + 1 } := fun tk => ⟨.str d.shown, H, I.tok _, ⟨tk, rfl⟩, q⟩
  cases u with
  | ref a =>
    refine repr_of_reads' rd sh (PyData.noDict_hsm nd) gua (by omega) (fun b o e => e) ?_ sz
    intro h' u tk keep
    exact ⟨.str d.shown, H, I.kept keep, ⟨u, rfl⟩, q⟩
  | none =>
    cases rd
    simp only [PyData.shown] at leaf sz
    exact PySem.P.repr_of_none (leaf _)
  | bool b =>
    cases rd
    simp only [PyData.shown] at leaf sz
    exact PySem.P.repr_of_bool (leaf _)
  | int i t =>
    cases rd
    simp only [PyData.shown] at leaf sz
    exact PySem.P.repr_of_int (by simpa [PyData.showable] using sh) (leaf _)
  | str z t =>
    cases rd
    simp only [PyData.shown] at leaf sz
    exact PySem.P.repr_of_str (leaf _) sz
  | _ => cases rd
end Jg
namespace Jg
open PySem PySem.Spec L2
/-! ### operations by name -/
def rAddS : R2 := fun x y H Q => ∃ i j, x = .str i ∧ y = .str j ∧ i.length + j.length ≤ sizeLine ∧ Q (.str (i ++ j)) H
theorem op_addS {X : Cx} : OpR X (binaryOp .Add) rAddS := op_add_str
def rLen (K : PySem.W.Frag) : List V → Hp → VK → Prop := fun xs H Q => ∃ x n, xs = [x] ∧ LenV K x H n ∧ Q (.int n) H
theorem call_lenV {X : Cx} {K : PySem.W.Frag} (hK : X.K = K := by rfl) : CallR X (.builtin "len") (rLen K) := by
  subst hK
  intro pins s σ H xs us Q I rel h
  obtain ⟨x, n, e, l, q⟩ := h
  exact call_len pins s σ H xs us Q I rel ⟨x, n, e, l, q⟩
def rMax : List V → Hp → VK → Prop := fun xs H Q => ∃ i j, xs = [.int i, .int j] ∧ Q (.int (if j > i then j else i)) H
theorem call_maxV {X : Cx} (hc : X.calm = true) : CallR X (.builtin "max") rMax := call_max2 hc
def rMin : List V → Hp → VK → Prop := fun xs H Q => ∃ i j, xs = [.int i, .int j] ∧ Q (.int (if j < i then j else i)) H
theorem call_minV {X : Cx} (hc : X.calm = true) : CallR X (.builtin "min") rMin := call_min2 hc
def rInt : List V → Hp → VK → Prop := fun xs H Q => (∃ i, xs = [.int i] ∧ Q (.int i) H) ∨ ∃ k, xs = [.bl k] ∧ Q (.int (if k then 1 else 0)) H
theorem call_intV {X : Cx} : CallR X (.type "int") rInt := call_int1
def rIs : R2 := fun x y H Q => y = .non ∧ Q (.bl (decide (x = .non))) H
theorem op_isV {X : Cx} : OpR X (compareOp .Is) rIs := op_isN
def rIsNot : R2 := fun x y H Q => y = .non ∧ Q (.bl (!decide (x = .non))) H
theorem op_isNotV {X : Cx} : OpR X (compareOp .IsNot) rIsNot := op_notN
def rJoin (K : PySem.W.Frag) : V → List V → Hp → VK → Prop := fun x xs H Q => ∃ a p, ∃ ys : List Str, x = .str a ∧ xs = [.ref p] ∧ (SqL K H p (ys.map V.str) ∨ SqT K H p (ys.map V.str)) ∧
  (ys.map (·.length)).sum + ys.length * a.length ≤ 16777216 ∧ Q (.str (Txt.join a ys)) H
theorem mt_joinV {X : Cx} {K : PySem.W.Frag} (hK : X.K = K := by rfl) : MtR X "str.join" (rJoin K) := by
  subst hK
  exact mt_join
theorem ix_listV {X : Cx} {K : PySem.W.Frag} (hK : X.K = K := by rfl) : IxR X (rIxL K) := by
  subst hK
  exact ix_list
theorem ix_tupV {X : Cx} {K : PySem.W.Frag} (hK : X.K = K := by rfl) : IxR X (rIxT K) := by
  subst hK
  exact ix_tup
theorem call_isiV {X : Cx} {K : PySem.W.Frag} (hK : X.K = K := by rfl) : CallR X (.builtin "isinstance") (rIsi K) := by
  subst hK
  exact call_isi
def rSplit : V → List V → Hp → VK → Prop := fun x xs H Q => ∃ a b, x = .str a ∧ xs = [.str b] ∧ (b.length == 0) = false ∧ a.length + 2 ≤ sizeLine ∧ rNewStrs (Txt.split a b) H Q
theorem mt_splitV {X : Cx} : MtR X "str.split" rSplit := mt_split
/-! ### readings, a step each -/
section
variable {σ : L2.St} {H : Hp} {Q : VK} {B : Bool → Hp → Prop} {R : List V → Hp → Prop} {D : Ends} {i : Nat} {v x y : V} {ta tb te : TE} {t u c : TT} {ts ts2 : TS} {tas : TA} {b : Bool} {g : TG} {r : R2} {K : PySem.W.Frag}
theorem g_var (e : σ[i]? = some (some v)) (q : Q v H) : tVar i σ H Q := ⟨v, e, q⟩
theorem g_c (q : Q v H) : tC v σ H Q := q
theorem g_op (q : ta σ H fun x H1 => tb σ H1 fun y H2 => r x y H2 Q) : tOp r ta tb σ H Q := q
theorem g_un {r : V → Hp → VK → Prop} (q : ta σ H fun x H1 => r x H1 Q) : tUn r ta σ H Q := q
theorem g_I0 {g : Int → Int → V} {a b : Int} (q : Q (g a b) H) : rI0 g (.int a) (.int b) H Q := ⟨a, b, rfl, rfl, q⟩
theorem g_I {C : Int → Int → Prop} {g : Int → Int → V} {a b : Int} (h : C a b) (q : Q (g a b) H) : rI C g (.int a) (.int b) H Q := ⟨a, b, rfl, rfl, h, q⟩
theorem g_addS {a b : Str} (h : a.length + b.length ≤ sizeLine) (q : Q (.str (a ++ b)) H) : rAddS (.str a) (.str b) H Q := ⟨a, b, rfl, rfl, h, q⟩
theorem g_eq (h : scal x y = true) (q : Q (.bl (decide (x = y))) H) : rEq x y H Q := ⟨h, q⟩
theorem g_ne (h : scal x y = true) (q : Q (.bl (!decide (x = y))) H) : rNe x y H Q := ⟨h, q⟩
theorem g_is (q : Q (.bl (decide (x = .non))) H) : rIs x .non H Q := ⟨rfl, q⟩
theorem g_isNot (q : Q (.bl (!decide (x = .non))) H) : rIsNot x .non H Q := ⟨rfl, q⟩
theorem g_test (q : ta σ H fun x H' => ∃ k, x = .bl k ∧ B k H') : tTest ta σ H B := q
theorem g_B (q : ta σ H fun x H' => ∃ k, x = .bl k ∧ B k H') : tB ta σ H B := q
theorem g_bl {B : Bool → Prop} (q : B b) : ∃ k, V.bl b = .bl k ∧ B k := ⟨b, rfl, q⟩
theorem g_not (q : t σ H fun c H1 => B (!c) H1) : tNot t σ H B := q
theorem g_and (q : t σ H fun c H1 => if c = true then u σ H1 B else B false H1) : tAnd t u σ H B := q
theorem g_or (q : t σ H fun c H1 => if c = true then B true H1 else u σ H1 B) : tOr t u σ H B := q
theorem g_notV (q : ta σ H fun x H1 => ∃ c, x = .bl c ∧ Q (.bl (!c)) H1) : tNotV ta σ H Q := q
theorem g_andV (q : ta σ H fun x H1 => ∃ c, x = .bl c ∧ if c = true then tb σ H1 Q else Q (.bl false) H1) : tAndV ta tb σ H Q := q
theorem g_orV (q : ta σ H fun x H1 => ∃ c, x = .bl c ∧ if c = true then Q (.bl true) H1 else tb σ H1 Q) : tOrV ta tb σ H Q := q
theorem g_if (q : t σ H fun c H1 => if c = true then ta σ H1 Q else tb σ H1 Q) : tIf t ta tb σ H Q := q
theorem g_nil (q : R [] H) : tNil σ H R := q
theorem g_cons (q : ta σ H fun x H1 => tas σ H1 fun xs H2 => R (x :: xs) H2) : tCons ta tas σ H R := q
theorem g_lst (q : tas σ H fun xs H1 => xs.length ≤ sizeLine ∧ ∀ p, H1 p = none → Q (.ref p) (upd H1 p (.lst xs))) : tLst tas σ H Q := q
theorem g_tup (q : tas σ H fun xs H1 => xs.length ≤ sizeLine ∧ ∀ p, H1 p = none → Q (.ref p) (upd H1 p (.tup xs))) : tTup tas σ H Q := q
theorem g_call {sp : Sp} {dvs : List V} {E : XK} (q : tas σ H fun vs H1 => sp (vs ++ dvs) H1 Q E) : tCall sp dvs E tas σ H Q := q
theorem g_CB {r : List V → Hp → VK → Prop} (q : tas σ H fun vs H1 => r vs H1 Q) : tCB r tas σ H Q := q
theorem g_int {a : Int} (q : Q (.int a) H) : rInt [.int a] H Q := Or.inl ⟨a, rfl, q⟩
theorem g_intB {k : Bool} (q : Q (.int (if k then 1 else 0)) H) : rInt [.bl k] H Q := Or.inr ⟨k, rfl, q⟩
theorem g_lenS {z : Str} (h : z.length ≤ sizeLine) (q : Q (.int z.length) H) : rLen K [.str z] H Q := ⟨_, z.length, rfl, ⟨h, rfl⟩, q⟩
theorem g_lenL {p : Addr} {xs : List V} (h : SqL K H p xs) (q : Q (.int xs.length) H) : rLen K [.ref p] H Q := ⟨_, xs.length, rfl, Or.inl ⟨xs, h, rfl⟩, q⟩
theorem g_lenT {p : Addr} {xs : List V} (h : SqT K H p xs) (q : Q (.int xs.length) H) : rLen K [.ref p] H Q := ⟨_, xs.length, rfl, Or.inr ⟨xs, h, rfl⟩, q⟩
theorem g_max {a b : Int} (q : Q (.int (if b > a then b else a)) H) : rMax [.int a, .int b] H Q := ⟨a, b, rfl, q⟩
theorem g_min {a b : Int} (q : Q (.int (if b < a then b else a)) H) : rMin [.int a, .int b] H Q := ⟨a, b, rfl, q⟩
theorem g_ixL {p : Addr} {xs : List V} {k : Int} (h : SqL K H p xs) (e : atI xs k = some v) (q : Q v H) : rIxL K (.ref p) (.int k) H Q := ⟨p, xs, k, v, rfl, rfl, h, e, q⟩
theorem g_ixT {p : Addr} {xs : List V} {k : Int} (h : SqT K H p xs) (e : atI xs k = some v) (q : Q v H) : rIxT K (.ref p) (.int k) H Q := ⟨p, xs, k, v, rfl, rfl, h, e, q⟩
theorem g_ixS {z : Str} {k : Int} {cp : Nat} (h : z.length ≤ sizeLine) (e : atI z.cps.toList k = some cp) (q : Q (.str ⟨#[cp]⟩) H) : rIxS (.str z) (.int k) H Q := ⟨z, k, cp, rfl, rfl, h, e, q⟩
theorem g_repr {d : PyData} (hd : Dp K H x d) (sh : d.showable = true) (nd : d.hasDict = false) (dp : d.depth ≤ 60) (sz : d.shown.length ≤ sizeLine) (q : Q (.str d.shown) H) : rRepr K [x] H Q := ⟨x, d, rfl, hd, sh, nd, dp, sz, q⟩
theorem g_isi {c : V} {ty k : Value} (kc : ClsV c k) (tx : TyX K H x ty) (e : PySem.W.kitOne K ty k = some b) (q : Q (.bl b) H) : rIsi K [x, c] H Q := ⟨x, c, ty, k, b, rfl, kc, tx, e, q⟩
/-! statements -/
theorem s_seq (q : ts { D with nx := ts2 D } σ H) : tSeq ts ts2 D σ H := q
theorem s_next (q : D.nx σ H) : tNext D σ H := q
theorem s_brk (q : D.bk σ H) : tBreak D σ H := q
theorem s_cont (q : D.ct σ H) : tCont D σ H := q
theorem s_drop (q : te σ H fun _ H1 => D.nx σ H1) : tDrop te D σ H := q
theorem s_ret (q : te σ H D.rt) : tRet te D σ H := q
theorem s_retN (q : D.rt .non H) : tRetN D σ H := q
theorem s_if (q : c σ H fun b H1 => if b = true then ts D σ H1 else ts2 D σ H1) : tIfS c ts ts2 D σ H := q
theorem s_asg (q : te σ H fun x H1 => g x σ H1 D.nx) : tAsg te g D σ H := q
theorem s_name {N : St → Hp → Prop} (q : N (σ.set i (some v)) H) : gName i v σ H N := q
theorem s_sub {to ti : TE} {t : TSet} {N : St → Hp → Prop} (q : to σ H fun o H1 => ti σ H1 fun i H2 => t o i v H2 fun H3 => N σ H3) : gSub to ti t v σ H N := q
theorem s_setL {p : Addr} {xs : List V} {k : Int} {j : Nat} {N : Hp → Prop} (h : H p = some (.lst xs)) (e : ixN xs.length k = some j) (q : N (upd H p (.lst (xs.set j v)))) : rSetL (.ref p) (.int k) v H N := ⟨p, xs, k, j, rfl, rfl, h, e, q⟩
theorem s_append {p : Addr} {xs : List V} (h : H p = some (.lst xs)) (l : xs.length < sizeLine) (q : Q .non (upd H p (.lst (xs ++ [v])))) : rAppend (.ref p) [v] H Q := ⟨p, xs, v, rfl, rfl, h, l, q⟩
theorem g_BM {T : String} {r : V → List V → Hp → VK → Prop} (q : ta σ H fun x H1 => tyV K T x H1 ∧ tas σ H1 fun xs H2 => r x xs H2 Q) : tBM K T r ta tas σ H Q := q
theorem g_M1 {r : V → List V → Hp → VK → Prop} (q : ta σ H fun x H1 => (∃ a, x = .str a) ∧ tb σ H1 fun y H2 => r x [y] H2 Q) : tM1 r ta tb σ H Q := q
theorem g_str {s : Str} {A : Prop} (q : A) : (∃ a, V.str s = .str a) ∧ A := ⟨⟨s, rfl⟩, q⟩
theorem g_sl {r : V → Option Int → Option Int → Hp → VK → Prop} {tl th : TO} (q : ta σ H fun x H1 => tl σ H1 fun l H2 => th σ H2 fun u H3 => r x l u H3 Q) : tSl r ta tl th σ H Q := q
theorem g_noPart {N : Option Int → Hp → Prop} (q : N none H) : tNoPart σ H N := q
theorem g_part {N : Option Int → Hp → Prop} (q : ta σ H fun x H1 => ∃ i, x = .int i ∧ N (some i) H1) : tPart ta σ H N := q
theorem g_ex {N : Int → Prop} {a : Int} (q : N a) : ∃ i, V.int a = .int i ∧ N i := ⟨a, rfl, q⟩
theorem g_slS {z : Str} {l h : Option Int} (hz : z.length ≤ sizeLine) (q : Q (.str (cutS z l h)) H) : rSlS (.str z) l h H Q := ⟨z, rfl, hz, q⟩
theorem g_true {A B : Prop} (q : A) : if true = true then A else B := by
  rw [if_pos rfl]
  exact q
theorem g_false {A B : Prop} (q : B) : if false = true then A else B := by
  rw [if_neg Bool.false_ne_true]
  exact q
theorem g_yes {c A B : Prop} [Decidable c] (h : c) (q : A) : if decide c = true then A else B := by
  rw [decide_eq_true h, if_pos rfl]
  exact q
theorem g_no {c A B : Prop} [Decidable c] (h : ¬ c) (q : B) : if decide c = true then A else B := by
  rw [decide_eq_false h, if_neg Bool.false_ne_true]
  exact q
theorem g_two {c A B : Prop} [Decidable c] (h1 : c → A) (h2 : ¬ c → B) : if decide c = true then A else B := by
  by_cases h : c
  · exact g_yes h (h1 h)
  · exact g_no h (h2 h)
theorem g_way {c : Bool} {A B : Prop} (h1 : c = true → A) (h2 : c = false → B) : if c = true then A else B := by
  cases c with
  | true => exact g_true (h1 rfl)
  | false => exact g_false (h2 rfl)
end
end Jg
namespace Jg
open PySem PySem.Spec L2
/-! ### the bag of draws -/
/-- a bag stands at p: what is left of the cell, its rest, how many were mixed, n at most -/
def Bg (H : Hp) (p : Addr) (n : Nat) : Prop := ∃ a b c : Int, H p = some (.lst [.int a, .int b, .int c]) ∧ 0 ≤ b ∧ b < 2147483629 ∧ 0 ≤ c ∧ c ≤ (n : Int)
theorem Bg.mono {H : Hp} {p : Addr} {n m : Nat} (B : Bg H p n) (h : n ≤ m) : Bg H p m := by
  obtain ⟨a, b, c, e, h1, h2, h3, h4⟩ := B
  exact ⟨a, b, c, e, h1, h2, h3, by omega⟩
/-- all but the bag is as it was -/
def Mv (p : Addr) (H H' : Hp) : Prop := ∀ b o, b ≠ p → H b = some o → H' b = some o
theorem Mv.refl (p : Addr) (H : Hp) : Mv p H H := fun _ _ _ h => h
theorem Mv.trans {p : Addr} {H H1 H2 : Hp} (a : Mv p H H1) (b : Mv p H1 H2) : Mv p H H2 := fun x o hx h => b x o hx (a x o hx h)
theorem Mv.upd (p : Addr) (H : Hp) (o : HO) : Mv p H (upd H p o) := fun b u hb h => by
  rw [upd_ne hb]
  exact h
theorem Mv.new {p q : Addr} {H : Hp} {o : HO} (h : H q = none) : Mv p H (L2.upd H q o) := fun b u hb e => by
  rw [upd_ne (ne_of_none e h)]
  exact e
theorem Bg.some {H : Hp} {p : Addr} {n : Nat} (B : Bg H p n) : ∃ o, H p = some o := by
  obtain ⟨a, b, c, e, _⟩ := B
  exact ⟨_, e⟩
theorem Bg.ne {H : Hp} {p q : Addr} {n : Nat} (B : Bg H p n) (h : H q = none) : q ≠ p := by
  obtain ⟨o, e⟩ := B.some
  exact (ne_of_none e h).symm
theorem Bg.new {H : Hp} {p q : Addr} {n : Nat} {o : HO} (B : Bg H p n) (h : H q = none) : Bg (L2.upd H q o) p n := by
  obtain ⟨a, b, c, e, r⟩ := B
  exact ⟨a, b, c, by rw [upd_ne (ne_of_none e h)]; exact e, r⟩
theorem Bg.off {H : Hp} {p q : Addr} {n : Nat} {o : HO} (B : Bg H p n) (h : q ≠ p) : Bg (L2.upd H q o) p n := by
  obtain ⟨a, b, c, e, r⟩ := B
  exact ⟨a, b, c, by rw [upd_ne h.symm]; exact e, r⟩
/-- what is free behind was free ahead -/
theorem Mv.free {p q : Addr} {H H' : Hp} {n : Nat} (m : Mv p H H') (B : Bg H' p n) (h : H' q = none) : H q = none := by
  have hq := B.ne h
  cases e : H q with
  | none => rfl
  | some o =>
    rw [m q o hq e] at h
    cases h
theorem Mv.sq {K : PySem.W.Frag} {p q : Addr} {H H' : Hp} {xs : List V} {n : Nat} (m : Mv p H H') (hq : q ≠ p) (h : SqL K H q xs) : SqL K H' q xs := by
  rcases h with (h | ⟨o, h⟩) | h
  · exact Or.inl (Or.inl (m _ _ hq h))
  · exact Or.inl (Or.inr ⟨o, m _ _ hq h⟩)
  · exact Or.inr h
end Jg
namespace Jg
open PySem PySem.Spec L2
/-! ### loops and comprehensions -/
/-- what a comprehension asks once its source stands -/
def lcB (g : TG) (tt : TT) (te : TE) (vs : List Nat) (σ : L2.St) (Q : VK) : It → Hp → Prop := fun J H1 => ∀ D, H1 D = none → ∃ W : Nat → Nat → Hp → Prop, (∃ m, W 0 m (upd H1 D (.lst []))) ∧ ∀ i m H, W i m H →
  (J.stop i H ∧ Q (.ref D) H) ∨ (J.go i H ∧ ∃ Nx : Hp → Prop, (∀ H', Nx H' → ∃ m', m' < m ∧ W (i + 1) m' H') ∧ ∀ x H', J.yld i H x H' → g x (wipe σ vs) H' fun σ2 H2 => wipe σ2 vs = wipe σ vs ∧ tt σ2 H2 fun b H3 =>
    if b = true then te σ2 H3 fun y H4 => ∃ acc, H4 D = some (.lst acc) ∧ acc.length < sizeLine ∧ Nx (upd H4 D (.lst (acc ++ [y]))) else Nx H3)
/-- what a for asks -/
def forB (g : TG) (tb : TS) (D : Ends) (σ : L2.St) : It → Hp → Prop := fun J H1 => ∃ W : Nat → Nat → L2.St → Hp → Prop, (∃ m, W 0 m σ H1) ∧ ∀ i m σ H, W i m σ H →
  (J.stop i H ∧ D.nx σ H) ∨ (J.go i H ∧ ∃ N : L2.St → Hp → Prop, (∀ σ' H', N σ' H' → ∃ m', m' < m ∧ W (i + 1) m' σ' H') ∧ ∀ x H', J.yld i H x H' → g x σ H' fun σ2 H2 => tb { D with nx := N, ct := N, bk := D.nx } σ2 H2)
section
variable {σ : L2.St} {H : Hp} {Q : VK} {D : Ends} {wi : TI} {g : TG} {tt : TT} {te : TE} {vs : List Nat} {tb : TS} {ta : TA} {tl : TE} {R : It → Hp → Prop} {K : PySem.W.Frag} {i : Nat}
theorem g_lc (q : wi σ H (lcB g tt te vs σ Q)) : tLc wi g tt te vs σ H Q := q
theorem s_for (q : wi σ H (forB g tb D σ)) : tFor wi g tb D σ H := q
theorem g_rng1 (q : ta σ H fun vs H1 => ∃ j : Int, vs = [.int j] ∧ -(2 ^ 62) ≤ j ∧ j < 2 ^ 62 ∧ R (Itr 0 j.toNat) H1) : iRng1 ta σ H R := q
theorem g_rngN {j : Int} (h : 0 ≤ j ∧ j < 2 ^ 62) (q : R (Itr 0 j.toNat) H) : ∃ j' : Int, [V.int j] = [.int j'] ∧ -(2 ^ 62) ≤ j' ∧ j' < 2 ^ 62 ∧ R (Itr 0 j'.toNat) H := ⟨j, rfl, by omega, h.2, q⟩
theorem g_iList (q : tl σ H fun x H1 => ∃ a, x = .ref a ∧ (∃ xs, SqL K H1 a xs) ∧ R (Itl K a) H1) : iList K tl σ H R := q
theorem g_iTup (q : tl σ H fun x H1 => ∃ a, x = .ref a ∧ (∃ xs, SqT K H1 a xs) ∧ R (Itt K a) H1) : iTup K tl σ H R := q
theorem g_itl {a : Addr} {xs : List V} (h : SqL K H a xs) (q : R (Itl K a) H) : ∃ a', V.ref a = .ref a' ∧ (∃ xs, SqL K H a' xs) ∧ R (Itl K a') H := ⟨a, rfl, ⟨xs, h⟩, q⟩
theorem g_itt {a : Addr} {xs : List V} (h : SqT K H a xs) (q : R (Itt K a) H) : ∃ a', V.ref a = .ref a' ∧ (∃ xs, SqT K H a' xs) ∧ R (Itt K a') H := ⟨a, rfl, ⟨xs, h⟩, q⟩
theorem g_iStr (q : tl σ H fun v H1 => ∃ x, v = .str x ∧ R (Its x) H1) : iStr tl σ H R := q
theorem g_its {z : Str} (q : R (Its z) H) : ∃ x, V.str z = .str x ∧ R (Its x) H := ⟨z, rfl, q⟩
theorem g_tyes {B : Bool → Hp → Prop} (q : B true H) : tYes σ H B := q
/-- [f x for x in xs], f without a trace: a new list of what comes -/
theorem lc_pure {a : Addr} {xs : List V} (f : V → V) (sq : SqL K H a xs) (hn : xs.length < sizeLine) (wv : ∀ x, wipe ((wipe σ [i]).set i (some x)) [i] = wipe σ [i])
    (hs : ∀ x ∈ xs, ∀ (H2 : Hp) (R : VK), Same H H2 → R (f x) H2 → te ((wipe σ [i]).set i (some x)) H2 R)
    (q : ∀ D, H D = none → Q (.ref D) (upd H D (.lst (xs.map f)))) : lcB (gName i) tYes te [i] σ Q (Itl K a) H := by
  intro D hD
  refine lc_list (xs := xs) (fun j H2 => H2 = upd H D (.lst ((xs.take j).map f))) (by rw [List.take_zero, List.map_nil]) ?_ ?_ ?_
  · rintro j H2 hj rfl
    rcases sq with (h | ⟨o, h⟩) | h
    · exact Or.inl (Or.inl (by rw [upd_ne (ne_of_none h hD)]; exact h))
    · exact Or.inl (Or.inr ⟨o, by rw [upd_ne (ne_of_none h hD)]; exact h⟩)
    · exact Or.inr h
  · rintro j x H2 hx rfl
    refine ⟨wv x, ?_⟩
    with_reducible refine g_tyes ?_
    with_reducible refine g_true ?_
    refine hs x (List.mem_of_getElem? hx) _ _ (fun b o e => by rw [upd_ne (ne_of_none e hD)]; exact e) ?_
    refine ⟨_, upd_same, ?_, ?_⟩
    · rw [List.length_map]
      exact Nat.lt_of_le_of_lt (List.length_take_le' _ _) hn
    · rw [upd_upd, List.take_add_one, hx, List.map_append]
      rfl
  · rintro H2 rfl
    rw [List.take_length]
    exact q D hD
/-- [f(bag) for k in range(n)]: the bag stands at p, each draw at most c -/
theorem lc_draw {p : Addr} {n b0 c : Nat} (E : V → Prop) (hn : n < sizeLine) (B : Bg H p b0) (wv : ∀ x, wipe ((wipe σ [i]).set i (some x)) [i] = wipe σ [i])
    (hs : ∀ (j : Nat) (H2 : Hp) (R : VK), j < n → Bg H2 p (b0 + j * c) → Mv p H H2 → (∀ y H3, E y → Bg H3 p (b0 + (j + 1) * c) → Mv p H2 H3 → R y H3) → te ((wipe σ [i]).set i (some (.int (0 + (j : Nat))))) H2 R)
    (q : ∀ D H' ys, H D = none → D ≠ p → ys.length = n → (∀ y ∈ ys, E y) → H' D = some (.lst ys) → Bg H' p (b0 + n * c) → Mv p H H' → Q (.ref D) H') : lcB (gName i) tYes te [i] σ Q (Itr 0 n) H := by
  intro D hD
  have nD := B.ne hD
  refine lc_range (lo := 0) (n := n) (fun j H2 => ∃ ys, ys.length = j ∧ (∀ y ∈ ys, E y) ∧ H2 D = some (.lst ys) ∧ Bg H2 p (b0 + j * c) ∧ Mv p H H2) ⟨[], rfl, by simp, upd_same, by simpa using B.new hD, Mv.new hD⟩ ?_ ?_
  · rintro j H2 hj ⟨ys, l, he, hd, B2, m⟩
    refine ⟨wv _, ?_⟩
    with_reducible refine g_tyes ?_
    with_reducible refine g_true ?_
    refine hs j H2 _ hj B2 m ?_
    intro y H3 ey B3 m3
    refine ⟨ys, m3 _ _ nD hd, by omega, ys ++ [y], by rw [List.length_append, l]; rfl, ?_, upd_same, B3.off nD, ?_⟩
    · intro z hz
      rcases List.mem_append.mp hz with h | h
      · exact he z h
      · rw [List.mem_singleton.mp h]
        exact ey
    · intro b o hb e
      rw [upd_ne (ne_of_none e hD)]
      exact m3 b o hb (m b o hb e)
  · rintro H2 ⟨ys, l, he, hd, B2, m⟩
    exact q D H2 ys hD nD l he hd B2 m
end
/-! ### signs -/
def rInC : R2 := fun x y H Q => ∃ c z, x = .str ⟨#[c]⟩ ∧ y = .str z ∧ Q (.bl (decide (c ∈ z.cps.toList))) H
theorem op_inC {X : Cx} : OpR X (compareOp .In) rInC := op_in_sign
theorem g_inC {H : Hp} {Q : VK} {c : Nat} {x z : Str} (e : x = ⟨#[c]⟩) (q : Q (.bl (decide (c ∈ z.cps.toList))) H) : rInC (.str x) (.str z) H Q := ⟨c, z, by rw [e], rfl, q⟩
def rInL (K : PySem.W.Frag) : R2 := rIn K false
theorem op_inL {X : Cx} {K : PySem.W.Frag} (hK : X.K = K := by rfl) : OpR X (compareOp .In) (rInL K) := by
  subst hK
  exact op_in_seq
theorem g_inL {K : PySem.W.Frag} {H : Hp} {Q : VK} {x : V} {p : Addr} {xs : List V} (h : SqL K H p xs) (fx : flatV x = true) (fs : xs.all flatV = true) (q : Q (.bl (inV x xs)) H) : rInL K x (.ref p) H Q := ⟨p, xs, rfl, Or.inl h, fx, fs, q⟩
def rAnyB (K : PySem.W.Frag) : List V → Hp → VK → Prop := fun xs H Q => ∃ (a : Addr) (bs : List Bool), xs = [.ref a] ∧ SqL K H a (bs.map V.bl) ∧ Q (.bl (bs.any id)) H
theorem call_any {X : Cx} {K : PySem.W.Frag} (hc : X.calm = true) (hK : X.K = K := by rfl) : CallR X (.builtin "any") (rAnyB K) := by
  subst hK
  exact cr_any hc
def rAllB (K : PySem.W.Frag) : List V → Hp → VK → Prop := fun xs H Q => ∃ (a : Addr) (bs : List Bool), xs = [.ref a] ∧ SqL K H a (bs.map V.bl) ∧ Q (.bl (bs.all id)) H
theorem call_all {X : Cx} {K : PySem.W.Frag} (hc : X.calm = true) (hK : X.K = K := by rfl) : CallR X (.builtin "all") (rAllB K) := by
  subst hK
  exact cr_all hc
theorem g_any {K : PySem.W.Frag} {H : Hp} {Q : VK} {a : Addr} {bs : List Bool} (h : SqL K H a (bs.map V.bl)) (q : Q (.bl (bs.any id)) H) : rAnyB K [.ref a] H Q := ⟨a, bs, rfl, h, q⟩
theorem g_all {K : PySem.W.Frag} {H : Hp} {Q : VK} {a : Addr} {bs : List Bool} (h : SqL K H a (bs.map V.bl)) (q : Q (.bl (bs.all id)) H) : rAllB K [.ref a] H Q := ⟨a, bs, rfl, h, q⟩
theorem g_join {K : PySem.W.Frag} {H : Hp} {Q : VK} {a : Str} {p : Addr} {ys : List Str} (h : SqL K H p (ys.map V.str)) (l : (ys.map (·.length)).sum + ys.length * a.length ≤ 16777216) (q : Q (.str (Txt.join a ys)) H) : rJoin K (.str a) [.ref p] H Q := ⟨a, p, ys, rfl, rfl, Or.inl h, l, q⟩
theorem g_split {H : Hp} {Q : VK} {a b : Str} (hb : (b.length == 0) = false) (l : a.length + 2 ≤ sizeLine) (q : ∀ p, H p = none → Q (.ref p) (upd H p (.lst ((Txt.split a b).map V.str)))) : rSplit (.str a) [.str b] H Q := ⟨a, b, rfl, rfl, hb, l, q⟩
theorem g_sz {xs : List V} {A : Prop} (h : xs.length ≤ sizeLine) (q : A) : xs.length ≤ sizeLine ∧ A := ⟨h, q⟩
theorem g_dnew {σ : L2.St} {H : Hp} {Q : VK} (q : ∀ p, H p = none → Q (.ref p) (upd H p (.dK []))) : tDNewK σ H Q := q
/-- {'k': v}, both written -/
theorem g_disp1 {σ : L2.St} {H : Hp} {Q : VK} {k : Str} {v : V} (q : ∀ p, H p = none → Q (.ref p) (upd H p (.dK [(Sum.inr k, v)]))) : tDisp [(tC (.str k), tC v)] σ H Q := by
  intro p hp
  refine ⟨upd_same, [(Sum.inr k, v)], rfl, Nat.le_of_ble_eq_true rfl, ?_⟩
  rw [upd_upd]
  exact q p hp
theorem ne_new {H : Hp} {a b : Addr} {o : HO} (h' : H b = none) (h : H a = some o) : a ≠ b := ne_of_none h h'
theorem atI_mem {xs : List V} {z : Int} (h0 : 0 ≤ z) (h1 : z < xs.length) : ∃ v ∈ xs, atI xs z = some v := by
  have hl : z.toNat < xs.length := by omega
  refine ⟨xs[z.toNat], List.getElem_mem hl, ?_⟩
  unfold atI ixN
  rw [if_pos h0, if_pos h1]
  show xs[z.toNat]? = _
  exact List.getElem?_eq_getElem hl
theorem atI_nat {α : Type} {xs : List α} {z : Int} (h0 : 0 ≤ z) (h1 : z < xs.length) : ∃ h : z.toNat < xs.length, atI xs z = some (xs[z.toNat]'h) := by
  have hl : z.toNat < xs.length := by omega
  refine ⟨hl, ?_⟩
  unfold atI ixN
  rw [if_pos h0, if_pos h1]
  exact List.getElem?_eq_getElem hl
theorem upd_keep {H : Hp} {a b : Addr} {o u : HO} (h' : H b = none) (h : H a = some o) : upd H b u a = some o := by
  rw [upd_ne (ne_of_none h h')]
  exact h
theorem mv_new {p q : Addr} {H0 H : Hp} {o : HO} (h : H q = none) (m : Mv p H0 H) : Mv p H0 (upd H q o) := m.trans (Mv.new h)
theorem ix_draw {K : PySem.W.Frag} {H : Hp} {l : Addr} {xs : List V} {z m : Int} (sq : H l = some (.lst xs)) (h0 : 0 ≤ z) (h1 : z < m) (hm : m = xs.length) : ∃ v ∈ xs, ∀ Q : VK, Q v H → rIxL K (.ref l) (.int z) H Q := by
  obtain ⟨v, hv, e⟩ := atI_mem h0 (by omega : z < xs.length)
  exact ⟨v, hv, fun Q q => g_ixL (Or.inl (Or.inl sq)) e q⟩
theorem g_nt {A B : Prop} (q : B) : if (!true) = true then A else B := by
  show if false = true then A else B
  rw [if_neg Bool.false_ne_true]
  exact q
theorem g_nf {A B : Prop} (q : A) : if (!false) = true then A else B := by
  show if true = true then A else B
  rw [if_pos rfl]
  exact q
theorem g_U {g : Int → V} {a : Int} {H : Hp} {Q : VK} (q : Q (g a) H) : rU g (.int a) H Q := ⟨a, rfl, q⟩
theorem ne_bag {H : Hp} {p q : Addr} {n : Nat} (h : H q = none) (B : Bg H p n) : q ≠ p := B.ne h
/-- two ways of one test on texts -/
theorem g_txt {x y : Str} {A B : Prop} (h1 : x = y → A) (h2 : x ≠ y → B) : if decide (V.str x = V.str y) = true then A else B := by
  by_cases e : x = y
  · exact g_yes (by rw [e]) (h1 e)
  · exact g_no (fun z => e (by cases z; rfl)) (h2 e)
theorem g_int2 {x y : Int} {A B : Prop} (h1 : x = y → A) (h2 : x ≠ y → B) : if decide (V.int x = V.int y) = true then A else B := by
  by_cases e : x = y
  · exact g_yes (by rw [e]) (h1 e)
  · exact g_no (fun z => e (by cases z; rfl)) (h2 e)

/-- a conditional expression by what both ways give -/
theorem g_cutIf {t : TT} {ta tb : TE} {σ : L2.St} {H : Hp} {Q : VK} (R : V → Hp → Prop) (h : ∀ Q : VK, (∀ v H', R v H' → Q v H') → tIf t ta tb σ H Q) (q : ∀ v H', R v H' → Q v H') : tIf t ta tb σ H Q := h Q q
theorem g_same {x : V} {A B : Prop} (q : B) : if (!decide (x = x)) = true then A else B := by
  rw [decide_eq_true rfl]
  exact g_nt q
theorem g_diff {x y : V} {A B : Prop} (h : x ≠ y) (q : A) : if (!decide (x = y)) = true then A else B := by
  rw [decide_eq_false h]
  exact g_nf q
theorem sq_same {K : PySem.W.Frag} {H H' : Hp} {a : Addr} {xs : List V} (s : Same H H') (h : SqL K H a xs) : SqL K H' a xs := s.seq h
end Jg
namespace Jg
open PySem PySem.Spec PyProof.Rows L2
/-! ### (l + r).replace(y, [z1, z2][i]) -/
def tReplIx (ta : TE) (m : Str) (tr : TE) (y z1 z2 : Str) (ti : TE) : TE := fun σ H Q => tOp rAddS ta (tC (.str m)) σ H fun a H1 => tr σ H1 fun b H2 => ∃ i j : Str, a = .str i ∧ b = .str j ∧ i.length + j.length ≤ 1000000 ∧
  ∀ (p : Addr) (o : Obj), H2 p = none → ti σ (upd H2 p (.frz o (.lst [.str z1, .str z2]))) fun w H3 => H3 p = some (.frz o (.lst [.str z1, .str z2])) ∧ ∃ k : Nat, w = .int (k : Int) ∧ k < 2 ∧
    ∀ z, (z = z1 ∨ z = z2) → Q (.str (Txt.replace (i ++ j) y z)) H3
theorem g_replIx {ta : TE} {m : Str} {tr : TE} {y z1 z2 : Str} {ti : TE} {σ : L2.St} {H : Hp} {Q : VK} (q : tOp rAddS ta (tC (.str m)) σ H fun a H1 => tr σ H1 fun b H2 => ∃ i j : Str, a = .str i ∧ b = .str j ∧ i.length + j.length ≤ 1000000 ∧
  ∀ (p : Addr) (o : Obj), H2 p = none → ti σ (upd H2 p (.frz o (.lst [.str z1, .str z2]))) fun w H3 => H3 p = some (.frz o (.lst [.str z1, .str z2])) ∧ ∃ k : Nat, w = .int (k : Int) ∧ k < 2 ∧
    ∀ z, (z = z1 ∨ z = z2) → Q (.str (Txt.replace (i ++ j) y z)) H3) : tReplIx ta m tr y z1 z2 ti σ H Q := q
/-- what the written part tells of the statics' space: no reader has booked a token -/
theorem noneBooked {K : PySem.W.Frag} {h : Heap} (kin : K.In h) (lim : h.NoLimit) (e : PySem.W.nsIn K cStatics sharingNotToldKey = some none) : NoneBooked h := by
  obtain ⟨mc, ns, _⟩ := lim
  refine ⟨mc, ns, ?_⟩
  obtain ⟨o, es, ep, ho, hd, _, look⟩ := ns
  unfold PySem.W.nsIn at e
  split at e
  case h_1 _ q =>
    have same := kin _ _ q
    rw [ho] at same
    cases same
    cases hd
    split at e
    case h_1 => cases e
    case h_2 he =>
      rw [← look]
      unfold nsFind findBy
      rw [← Array.find?_toList, he]
      rfl
  case h_2 => cases e
section
variable {X : Cx} {a r ei : Expr} {ta tr ti : TE} {m y z1 z2 : Str} {cm c j1 j2 : Nat} {cp c0 c1 c2 lp sp ap bp apos pos : Pos} {pins : List (Addr × Obj)} {s : Shared} {σ : L2.St} {H : Hp} {Q : VK}
/-- a + a written text: a token is out behind it -/
theorem run_addC (ha : PE X a ta) (I : L2.Inv X pins σ H s) (h : tOp rAddS ta (tC (.str m)) σ H Q) :
    wpAny (model X.prog X.w) X.A (eval (.BinOp a .Add (.Constant (.str m) cm cp) ap) X.env) (fun v s' => 1 ≤ s'.toks ∧ EP X pins σ Q v s') X.xe s := by
  refine wpAny_BinOp (thn (ha.run pins s σ H _ I h) ?_)
  rintro v s1 ⟨x, H1, I1, rx, q⟩
  refine Calls.Constant_str ?_
  refine wpAny_mono (PySem.wpAny_toks (op_addS pins _ σ H1 x (.str m) v _ Q (I1.tok _) rx ⟨_, rfl⟩ q)) ?_ (fun _ _ z => z.2)
  rintro u s2 ⟨le, e⟩
  exact ⟨Nat.le_trans (by omega : 1 ≤ s1.toks + 1) le, e⟩
theorem pe_replIx (ha : PE X a ta) (hr : PE X r tr) (hi : PE X ei ti) (l1 : z1.length ≤ 1) (l2 : z2.length ≤ 1)
    (nb : PySem.W.nsIn X.K cStatics sharingNotToldKey = some none) (hs : PlainIx ei)
    (hst : starEach [.Constant (.str y) c c0, .Subscript (.List [.Constant (.str z1) j1 c1, .Constant (.str z2) j2 c2] lp) ei sp] X.env =
      [(false, eval (.Constant (.str y) c c0) X.env), (false, eval (.Subscript (.List [.Constant (.str z1) j1 c1, .Constant (.str z2) j2 c2] lp) ei sp) X.env)] := by rfl)
    (hbase : attributeBase (.BinOp (.BinOp a .Add (.Constant (.str m) cm cp) ap) .Add r bp) "replace" X.env (eval (.BinOp (.BinOp a .Add (.Constant (.str m) cm cp) ap) .Add r bp) X.env) = eval (.BinOp (.BinOp a .Add (.Constant (.str m) cm cp) ap) .Add r bp) X.env := by rfl) (hline : (apos.endLine == pos.line) = true := by rfl) :
    PE X (.Call (.Attribute (.BinOp (.BinOp a .Add (.Constant (.str m) cm cp) ap) .Add r bp) "replace" apos) [.Constant (.str y) c c0, .Subscript (.List [.Constant (.str z1) j1 c1, .Constant (.str z2) j2 c2] lp) ei sp] [] pos) (tReplIx ta m tr y z1 z2 ti) := by
  constructor
  intro pins s σ H Q I h
  refine PySem.Call_method2 hbase hst hline (wpAny_BinOp (wpAny_mono (run_addC ha I h) ?_ (fun _ _ z => z)))
  rintro v s1 ⟨k1, av, H1, I1, ra, q1⟩
  refine wpAny_mono (PySem.wpAny_toks (hr.run pins s1 σ H1 _ I1 q1)) ?_ (fun _ _ z => z.2)
  rintro u s2 ⟨k2, bv, H2, I2, rb, i, j, rfl, rfl, len, q⟩
  obtain ⟨t, rfl⟩ := ra
  obtain ⟨t', rfl⟩ := rb
  have fit : i.length + j.length ≤ sizeLine := Nat.le_trans len (by decide)
  refine wpAny_mono (PySem.wpAny_toks (add_str (Q := fun v s' => ∃ t tk, v = Value.str (i ++ j) t ∧ s' = { s2 with toks := tk }) (fun t tk => ⟨t, tk, rfl, rfl⟩) fit)) ?_ (fun _ _ z => z.2)
  rintro w s3 ⟨k3, tw, tk, rfl, rfl⟩
  have pos3 : 1 ≤ tk := Nat.le_trans (Nat.le_trans k1 k2) k3
  refine ⟨"str", _, PySem.F.plainAttrs_str, PySem.F.slot_str_replace, PySem.F.type_str_replace, typeIs_str _ _ _, (fun _ e => nomatch e), Calls.callWith_builtin rfl (Calls.evalArgs_plain (Calls.spliced_cons ?_))⟩
  refine Calls.Constant_str (Calls.spliced_cons ?_)
  refine Subscript_ (wpAny_List_spliced ?_)
  show wpAny _ _ (spliced ((false, eval (.Constant (.str z1) j1 c1) X.env) :: backTo lp (starEach [.Constant (.str z2) j2 c2] X.env))) _ _ _
  refine Calls.spliced_cons (Calls.Constant_str ?_)
  show wpAny _ _ (spliced ((false, eval (.Constant (.str z2) j2 c2) X.env) :: backTo lp (starEach [] X.env))) _ _ _
  refine Calls.spliced_cons (Calls.Constant_str (Calls.spliced_nil ?_))
  have h2 : (2 : Nat) ≤ sizeLine := by decide
  refine ⟨h2, ?_⟩
  let o : Obj := { cls := .type "list", data := .seq #[.str z1 (tk + 1), .str z2 (tk + 1 + 1)] 0 }
  have fresh : H2 s2.heap.objs.size = none := I2.hok.fresh (Nat.le_refl _)
  have ok : ObjOk X.prog X.w (upd H2 s2.heap.objs.size (.frz o (.lst [.str z1, .str z2]))) (s2.heap.push o) s2.heap.objs.size (.frz o (.lst [.str z1, .str z2])) :=
    ⟨Heap.get?_push_size _ rfl, h2, [.str z1 _, .str z2 _], 0, .cons ⟨_, rfl⟩ (.cons ⟨_, rfl⟩ .nil), Heap.get?_push_size _ rfl⟩
  have I3 := I2.laid (a := s2.heap.objs.size) (t' := tk + 1 + 1 + 1) (fun b u e => Heap.get?_push_of_some _ e) (Nat.le_refl _) ok
  refine wpAny_mono (hi.run pins _ σ _ _ I3 (q _ o fresh)) ?_ (fun _ _ z => z)
  rintro iv s4 ⟨kv, H4, I4, r4, at4, k, rfl, hk, q4⟩
  obtain ⟨tki, rfl⟩ := r4
  obtain ⟨here, _⟩ := I4.hok _ _ at4
  have isl : s4.heap.IsList s2.heap.objs.size #[.str z1 (tk + 1), .str z2 (tk + 1 + 1)] := ⟨o, here, rfl, 0, rfl⟩
  have rep : ∀ (z : Str) (tz : Nat), z.length ≤ 1 → (z = z1 ∨ z = z2) → tz ≠ 0 → tk ≠ tz → wpAny (model X.prog X.w) X.A (spliced []) (fun vs s₁ => wpAny (model X.prog X.w) X.A (call (.builtin "str.replace") (.str (i ++ j) tw :: .str y tk :: .str z tz :: vs)) (EP X pins σ Q) X.xe s₁) X.xe s4 := by
    intro z tz lz ez nz dz
    refine Calls.spliced_nil ?_
    refine PySem.SC.replaceA (show tk ≠ 0 from Nat.pos_iff_ne_zero.mp pos3) nz dz ?_ (fun t' k => ⟨.str (Txt.replace (i ++ j) y z), H4, I4.tok k, ⟨t', rfl⟩, q4 z ez⟩) (noneBooked I4.kIn I4.nolimit nb)
    have el : (i ++ j).length = i.length + j.length := by rw [TL.len_tl, TL.tl_append, List.length_append, ← TL.len_tl, ← TL.len_tl]
    rw [el]
    have : (i.length + j.length + 1) * z.length ≤ (i.length + j.length + 1) * 1 := Nat.mul_le_mul_left _ lz
    omega
  have hkk : k = 0 ∨ k = 1 := by omega
  rcases hkk with rfl | rfl
  · exact item_listR isl (by decide) (by decide) rfl (rep z1 _ l1 (Or.inl rfl) (by omega) (by omega)) (hs _ _)
  · exact item_listR isl (by decide) (by decide) rfl (rep z2 _ l2 (Or.inr rfl) (by omega) (by omega)) (hs _ _)
end
end Jg
namespace Jg
open PySem PySem.Spec L2
/-! ### texts -/
/-- a text of at most n signs, each a sign -/
def Sg (z : Str) (n : Nat) : Prop := z.length ≤ n ∧ ∀ c ∈ TL.tl z, c < 1114112
theorem Sg.mono {z : Str} {n m : Nat} (h : Sg z n) (l : n ≤ m) : Sg z m := ⟨Nat.le_trans h.1 l, h.2⟩
theorem Sg.app {x y : Str} {n m : Nat} (a : Sg x n) (b : Sg y m) : Sg (x ++ y) (n + m) := by
  constructor
  · rw [TL.len_tl, TL.tl_append, List.length_append, ← TL.len_tl, ← TL.len_tl]
    exact Nat.add_le_add a.1 b.1
  · intro c hc
    rw [TL.tl_append] at hc
    rcases List.mem_append.mp hc with h | h
    · exact a.2 c h
    · exact b.2 c h
theorem Sg.cut {z : Str} {n : Nat} (h : Sg z n) (lo hi : Option Int) : Sg (cutS z lo hi) n :=
  ⟨Nat.le_trans (cutS_length z lo hi) h.1, fun c hc => h.2 c (List.mem_of_mem_drop (List.mem_of_mem_take hc))⟩
theorem Sg.of {z : Str} {n : Nat} (h : (decide (z.length ≤ n) && (TL.tl z).all (fun c => decide (c < 1114112))) = true) : Sg z n := by
  rw [Bool.and_eq_true, List.all_eq_true] at h
  exact ⟨of_decide_eq_true h.1, fun c hc => of_decide_eq_true (h.2 c hc)⟩
theorem Sg.sign {z : Str} {n : Nat} {k : Int} {c : Nat} (h : Sg z n) (e : atI z.cps.toList k = some c) : Sg ⟨#[c]⟩ 1 := by
  refine ⟨Nat.le_refl _, fun d hd => ?_⟩
  have : d = c := by simpa [TL.tl] using hd
  subst this
  refine h.2 d ?_
  unfold atI at e
  cases q : ixN z.cps.toList.length k with
  | none =>
    rw [q] at e
    cases e
  | some j =>
    rw [q] at e
    exact List.mem_of_getElem? e
theorem mem_joinL {S : List Nat} {c : Nat} : ∀ {ps : List (List Nat)}, c ∈ TL.joinL S ps → c ∈ S ∨ ∃ p ∈ ps, c ∈ p
  | [], h => by cases h
  | [p], h => Or.inr ⟨p, List.mem_singleton.mpr rfl, h⟩
  | p :: q :: r, h => by
    rcases List.mem_append.mp (show c ∈ p ++ (S ++ TL.joinL S (q :: r)) from h) with h | h
    · exact Or.inr ⟨p, List.mem_cons_self, h⟩
    · rcases List.mem_append.mp h with h | h
      · exact Or.inl h
      · rcases mem_joinL h with h | ⟨x, hx, h⟩
        · exact Or.inl h
        · exact Or.inr ⟨x, List.mem_cons_of_mem _ hx, h⟩
theorem joinL_mem {S : List Nat} {c : Nat} : ∀ {ps : List (List Nat)} {p : List Nat}, p ∈ ps → c ∈ p → c ∈ TL.joinL S ps
  | [], _, h, _ => by cases h
  | [x], p, h, hc => by
    rw [List.mem_singleton.mp h] at hc
    exact hc
  | x :: y :: r, p, h, hc => by
    show c ∈ x ++ (S ++ TL.joinL S (y :: r))
    rcases List.mem_cons.mp h with e | h
    · rw [e] at hc
      exact List.mem_append_left _ hc
    · exact List.mem_append_right _ (List.mem_append_right _ (joinL_mem h hc))
theorem tl_tjoin (y : Str) (ps : List Str) : TL.tl (Txt.join y ps) = TL.joinL (TL.tl y) (ps.map TL.tl) := by
  rw [TL.join_eq, TL.tl_join]
theorem joinL_len {S : List Nat} {n : Nat} (hS : S.length ≤ 1) : ∀ {ps : List (List Nat)}, (∀ p ∈ ps, p.length ≤ n) → (TL.joinL S ps).length ≤ ps.length * (n + 1)
  | [], _ => Nat.zero_le _
  | [p], h => by
    have := h p (List.mem_singleton.mpr rfl)
    show p.length ≤ 1 * (n + 1)
    omega
  | p :: q :: r, h => by
    have h1 := h p List.mem_cons_self
    have h2 := joinL_len (S := S) hS (ps := q :: r) (fun x hx => h x (List.mem_cons_of_mem _ hx))
    show (p ++ (S ++ TL.joinL S (q :: r))).length ≤ (q :: r).length.succ * (n + 1)
    rw [List.length_append, List.length_append, Nat.succ_mul]
    omega
/-- joined texts -/
theorem Sg.join {y : Str} {ps : List Str} {n k : Nat} (hy : Sg y 1) (hl : ps.length ≤ k) (h : ∀ p ∈ ps, Sg p n) : Sg (Txt.join y ps) (k * (n + 1)) := by
  constructor
  · rw [TL.len_tl, tl_tjoin]
    have l := joinL_len (S := TL.tl y) (n := n) (ps := ps.map TL.tl) (by rw [← TL.len_tl]; exact hy.1) (fun p hp => by
      obtain ⟨z, hz, rfl⟩ := List.mem_map.mp hp
      rw [← TL.len_tl]
      exact (h z hz).1)
    rw [List.length_map] at l
    exact Nat.le_trans l (Nat.mul_le_mul_right _ hl)
  · intro c hc
    rw [tl_tjoin] at hc
    rcases mem_joinL hc with hc | ⟨p, hp, hc⟩
    · exact hy.2 c hc
    · obtain ⟨z, hz, rfl⟩ := List.mem_map.mp hp
      exact (h z hz).2 c hc
/-- the parts of a text -/
theorem Sg.split {z : Str} {n m : Nat} (h : Sg z n) (hm : m < 256) : ∀ p ∈ Txt.split z ⟨#[m]⟩, Sg p n := by
  intro p hp
  have e := StrLaws.join_split z ⟨#[m]⟩
  constructor
  · exact Nat.le_trans (PyProof.Rows.part_short hp) h.1
  · intro c hc
    refine h.2 c ?_
    rw [← e, TL.tl_join]
    exact joinL_mem (List.mem_map.mpr ⟨p, hp, rfl⟩) hc

def rMulS : R2 := fun x y H Q => ∃ z n, x = .str z ∧ y = .int n ∧ MulOk z n ∧ Q (.str (Txt.mul z n)) H
theorem op_mulS {X : Cx} : OpR X (binaryOp .Mult) rMulS := by
  intro pins s σ H x y v u Q I rx ry h
  obtain ⟨z, n, rfl, rfl, ok, q⟩ := h
  obtain ⟨t, rfl⟩ := rx
  obtain ⟨t', rfl⟩ := ry
  exact PySem.SB.mul ok fun t' k => ⟨.str (Txt.mul z n), H, I.tok k, ⟨t', rfl⟩, q⟩
theorem g_mulS {z : Str} {n : Int} {H : Hp} {Q : VK} (ok : MulOk z n) (q : Q (.str (Txt.mul z n)) H) : rMulS (.str z) (.int n) H Q := ⟨z, n, rfl, rfl, ok, q⟩
theorem strs_of {P : Str → Prop} : ∀ {ys : List V}, (∀ y ∈ ys, ∃ z, y = .str z ∧ P z) → ∃ ws : List Str, ys = ws.map V.str ∧ ∀ z ∈ ws, P z
  | [], _ => ⟨[], rfl, by simp⟩
  | y :: ys, h => by
    obtain ⟨z, rfl, hz⟩ := h y List.mem_cons_self
    obtain ⟨ws, e, hw⟩ := strs_of (ys := ys) fun x hx => h x (List.mem_cons_of_mem _ hx)
    refine ⟨z :: ws, by rw [e]; rfl, ?_⟩
    intro x hx
    rcases List.mem_cons.mp hx with e | hx
    · rw [e]
      exact hz
    · exact hw x hx
theorem sum_le {n : Nat} : ∀ {ws : List Str}, (∀ z ∈ ws, z.length ≤ n) → (ws.map (·.length)).sum ≤ ws.length * n
  | [], _ => Nat.zero_le _
  | z :: ws, h => by
    have h1 := h z List.mem_cons_self
    have h2 := sum_le (ws := ws) fun x hx => h x (List.mem_cons_of_mem _ hx)
    show z.length + (ws.map (·.length)).sum ≤ (ws.length + 1) * n
    rw [Nat.succ_mul]
    omega
theorem cut_len (z : Str) (k : Nat) : (cutS z none (some (k : Int))).length ≤ k := by
  unfold cutS
  rw [TL.len_tl, TL.tl_mk, HT.sIx_none, HT.sIx_nat, List.length_take]
  omega
theorem joinL_len1 {S : List Nat} (hS : S.length ≤ 1) : ∀ ps : List (List Nat), (TL.joinL S ps).length ≤ (ps.map (·.length)).sum + ps.length
  | [] => Nat.zero_le _
  | [p] => by
    show p.length ≤ [p.length].sum + 1
    simp <;> omega
  | p :: q :: r => by
    have h2 := joinL_len1 hS (q :: r)
    show (p ++ (S ++ TL.joinL S (q :: r))).length ≤ p.length + ((q :: r).map (·.length)).sum + (q :: r).length.succ
    rw [List.length_append, List.length_append]
    omega
/-- one sign for another one -/
theorem Sg.repl {x z : Str} {n c : Nat} (h : Sg x n) (hz : Sg z 1) (hc : c < 256) : Sg (Txt.replace x ⟨#[c]⟩ z) (n + 1) := by
  rw [StrLaws.replace_one, ← TL.join_eq]
  constructor
  · rw [TL.len_tl, tl_tjoin]
    have l := joinL_len1 (S := TL.tl z) (by rw [← TL.len_tl]; exact hz.1) ((Txt.split x ⟨#[c]⟩).map TL.tl)
    have w := PyProof.Rows.split_weight x ⟨#[c]⟩ (Nat.le_refl 1)
    have e : ((Txt.split x ⟨#[c]⟩).map TL.tl).map (·.length) = (Txt.split x ⟨#[c]⟩).map (·.length) := by
      rw [List.map_map]
      exact List.map_congr_left fun y _ => (TL.len_tl y).symm
    rw [e, List.length_map] at l
    have := h.1
    omega
  · intro d hd
    rw [tl_tjoin] at hd
    rcases mem_joinL hd with hd | ⟨p, hp, hd⟩
    · exact hz.2 d hd
    · obtain ⟨y, hy, rfl⟩ := List.mem_map.mp hp
      exact (h.split hc y hy).2 d hd
end Jg
namespace K04
open PySem PySem.Spec L2 Jg
def top (i : Nat) : Stmt := PySem.Challenge.pw_termshelf_k04_words_and_rows_parted.main.body.getD i (.Pass ⟨0, 0, 0, 0⟩)
abbrev s_law_cell : Stmt := top 4
abbrev n_law_cell : List Str := ["_law_script", "_law_k"]
theorem sc_law_cell : FnScope n_law_cell ["_law_script", "_law_k"] (defScope s_law_cell) := ⟨rfl, rfl, rfl, by decide +kernel, rfl, by decide +kernel, by decide +kernel⟩
abbrev s_law_bag : Stmt := top 5
abbrev n_law_bag : List Str := ["_law_cell_here"]
theorem sc_law_bag : FnScope n_law_bag ["_law_cell_here"] (defScope s_law_bag) := ⟨rfl, rfl, rfl, by decide +kernel, rfl, by decide +kernel, by decide +kernel⟩
abbrev s_law_take : Stmt := top 6
abbrev n_law_take : List Str := ["_law_bag_here", "_law_many", "_law_digit", "_law_number"]
theorem sc_law_take : FnScope n_law_take ["_law_bag_here", "_law_many"] (defScope s_law_take) := ⟨rfl, rfl, rfl, by decide +kernel, rfl, by decide +kernel, by decide +kernel⟩
abbrev s_law_any : Stmt := top 7
abbrev n_law_any : List Str := ["_law_bag_here", "_law_some"]
theorem sc_law_any : FnScope n_law_any ["_law_bag_here"] (defScope s_law_any) := ⟨rfl, rfl, rfl, by decide +kernel, rfl, by decide +kernel, by decide +kernel⟩
abbrev s_law_parted : Stmt := top 10
abbrev n_law_parted : List Str := ["_law_text_here", "_law_mark", "_law_found", "_law_sign"]
theorem sc_law_parted : FnScope n_law_parted ["_law_text_here", "_law_mark"] (defScope s_law_parted) := ⟨rfl, rfl, rfl, by decide +kernel, rfl, by decide +kernel, by decide +kernel⟩
abbrev s_words_in : Stmt := top 1
abbrev n_words_in : List Str := ["thing", "words", "word"]
theorem sc_words_in : FnScope n_words_in ["thing"] (defScope s_words_in) := ⟨rfl, rfl, rfl, by decide +kernel, rfl, by decide +kernel, by decide +kernel⟩
abbrev s_rows_in : Stmt := top 2
abbrev n_rows_in : List Str := ["thing"]
theorem sc_rows_in : FnScope n_rows_in ["thing"] (defScope s_rows_in) := ⟨rfl, rfl, rfl, by decide +kernel, rfl, by decide +kernel, by decide +kernel⟩
abbrev s_law_words_due : Stmt := top 11
abbrev n_law_words_due : List Str := ["_law_text_here", "_law_found"]
theorem sc_law_words_due : FnScope n_law_words_due ["_law_text_here"] (defScope s_law_words_due) := ⟨rfl, rfl, rfl, by decide +kernel, rfl, by decide +kernel, by decide +kernel⟩
abbrev s_law_word : Stmt := top 8
abbrev n_law_word : List Str := ["_law_bag_here", "_law_signs", "_law_word_here", "_law_k"]
theorem sc_law_word : FnScope n_law_word ["_law_bag_here"] (defScope s_law_word) := ⟨rfl, rfl, rfl, by decide +kernel, rfl, by decide +kernel, by decide +kernel⟩
abbrev s_law_text : Stmt := top 9
abbrev n_law_text : List Str := ["_law_bag_here", "_law_text_here", "_law_k", "_law_at", "_law_way"]
theorem sc_law_text : FnScope n_law_text ["_law_bag_here"] (defScope s_law_text) := ⟨rfl, rfl, rfl, by decide +kernel, rfl, by decide +kernel, by decide +kernel⟩
abbrev s_law : Stmt := top 12
abbrev n_law : List Str := ["_law_script", "_law_k", "_law_bag_here", "_law_text_here", "_law_rows", "_law_turn", "_law_told", "_law_many"]
theorem sc_law : FnScope n_law ["_law_script"] (defScope s_law) := ⟨rfl, rfl, rfl, by decide +kernel, rfl, by decide +kernel, by decide +kernel⟩

/-- a thing that is no text, by its class -/
def NoS (H : Hp) (v : V) : Prop := v = .non ∨ (∃ b, v = .bl b) ∨ (∃ i, v = .int i) ∨ ∃ q, v = .ref q ∧ ((∃ xs, H q = some (.lst xs)) ∨ (∃ xs, H q = some (.tup xs)) ∨ ∃ kvs, H q = some (.dK kvs))
/-- what a thing is: a text, or none -/
def IsT (H : Hp) (v : V) : Option Str → Prop
  | some z => v = .str z ∧ Sg z 2000
  | none => NoS H v
theorem NoS.isi {K : PySem.W.Frag} {H : Hp} {v : V} (h : NoS H v) : ∃ ty, TyX K H v (.type ty) ∧ PySem.W.kitOne K (.type ty) (.type "str") = some false := by
  rcases h with rfl | ⟨b, rfl⟩ | ⟨i, rfl⟩ | ⟨q, rfl, ⟨xs, e⟩ | ⟨xs, e⟩ | ⟨xs, e⟩⟩
  · exact ⟨_, .base .non, kit_ty (by decide +kernel)⟩
  · exact ⟨_, .base (.bl b), kit_ty (by decide +kernel)⟩
  · exact ⟨_, .base (.int i), kit_ty (by decide +kernel)⟩
  · exact ⟨_, .base (.lst e), kit_ty (by decide +kernel)⟩
  · exact ⟨_, .base (.tup e), kit_ty (by decide +kernel)⟩
  · exact ⟨_, .base (.dK e), kit_ty (by decide +kernel)⟩
theorem NoS.same {H H' : Hp} {v : V} (h : NoS H v) (s : Same H H') : NoS H' v := by
  rcases h with h | h | h | ⟨q, e, ⟨xs, h⟩ | ⟨xs, h⟩ | ⟨xs, h⟩⟩
  · exact Or.inl h
  · exact Or.inr (Or.inl h)
  · exact Or.inr (Or.inr (Or.inl h))
  · exact Or.inr (Or.inr (Or.inr ⟨q, e, Or.inl ⟨xs, s _ _ h⟩⟩))
  · exact Or.inr (Or.inr (Or.inr ⟨q, e, Or.inr (Or.inl ⟨xs, s _ _ h⟩)⟩))
  · exact Or.inr (Or.inr (Or.inr ⟨q, e, Or.inr (Or.inr ⟨xs, s _ _ h⟩)⟩))
theorem IsT.same {H H' : Hp} {v : V} {o : Option Str} (h : IsT H v o) (s : Same H H') : IsT H' v o := by
  cases o with
  | some z => exact h
  | none => exact NoS.same h s
theorem isi_str {K : PySem.W.Frag} {H : Hp} (z : Str) : TyX K H (.str z) (.type "str") ∧ PySem.W.kitOne K (.type "str") (.type "str") = some true := ⟨.base (.str z), kit_ty (by decide +kernel)⟩
/-- a list of texts, or None -/
def OptL (H0 H : Hp) (o : Option (List Str)) (v : V) : Prop := match o with
  | none => v = .non
  | some ys => ∃ p, v = .ref p ∧ H0 p = none ∧ H p = some (.lst (ys.map V.str))
/-- the words of a text -/
def odd (y : Str) : Bool := decide (y = Str.ofString "") || decide (10 ∈ TL.tl y)
def wordsM (z : Str) : Option (List Str) := if (Txt.split z ⟨#[32]⟩).any odd = true then none else some (Txt.split z ⟨#[32]⟩)
def dueM (z : Str) : Option (List Str) := if 10 ∈ TL.tl z then none else if (Txt.split z ⟨#[32]⟩).any (fun y => decide (y = Str.ofString "")) = true then none else some (Txt.split z ⟨#[32]⟩)
def rowsM (z : Str) : Option (List Str) := some (Txt.split z ⟨#[10]⟩)
theorem dueM_eq (z : Str) : dueM z = wordsM z := by
  have e := StrLaws.join_split z ⟨#[32]⟩
  have mem : 10 ∈ TL.tl z ↔ ∃ y ∈ Txt.split z ⟨#[32]⟩, 10 ∈ TL.tl y := by
    constructor
    · intro h
      rw [← e, TL.tl_join] at h
      rcases mem_joinL h with h | ⟨p, hp, h⟩
      · exact absurd h (by decide)
      · obtain ⟨y, hy, rfl⟩ := List.mem_map.mp hp
        exact ⟨y, hy, h⟩
    · rintro ⟨y, hy, h⟩
      rw [← e, TL.tl_join]
      exact joinL_mem (List.mem_map.mpr ⟨y, hy, rfl⟩) h
  unfold dueM wordsM
  by_cases h : 10 ∈ TL.tl z
  · obtain ⟨y, hy, h1⟩ := mem.mp h
    have : (Txt.split z ⟨#[32]⟩).any odd = true := List.any_eq_true.mpr ⟨y, hy, by simp [odd, h1]⟩
    rw [if_pos h, if_pos this]
  · rw [if_neg h]
    have : (Txt.split z ⟨#[32]⟩).any odd = (Txt.split z ⟨#[32]⟩).any (fun y => decide (y = Str.ofString "")) := by
      rw [Bool.eq_iff_iff, List.any_eq_true, List.any_eq_true]
      constructor
      · rintro ⟨y, hy, h1⟩
        refine ⟨y, hy, ?_⟩
        have h2 : 10 ∉ TL.tl y := fun z => h (mem.mpr ⟨y, hy, z⟩)
        simpa [odd, h2] using h1
      · rintro ⟨y, hy, h1⟩
        exact ⟨y, hy, by unfold odd; rw [h1, Bool.true_or]⟩
    rw [this]
theorem OptL.same {H0 H H' : Hp} {o : Option (List Str)} {v : V} (h : OptL H0 H o v) (s : Same H H') : OptL H0 H' o v := by
  cases o with
  | none => exact h
  | some ys =>
    obtain ⟨p, e, h0, h1⟩ := h
    exact ⟨p, e, h0, s _ _ h1⟩
def dOpt : Option (List Str) → PyData
  | none => .none
  | some ys => .list (ys.map .str)
theorem dp_strs (K : PySem.W.Frag) (H : Hp) : ∀ ys : List Str, DpAll K H (ys.map V.str) (ys.map .str)
  | [] => .nil
  | y :: ys => .cons (.str y) (dp_strs K H ys)
theorem OptL.dp {K : PySem.W.Frag} {H0 H : Hp} {o : Option (List Str)} {v : V} (h : OptL H0 H o v) : Dp K H v (dOpt o) := by
  cases o with
  | none =>
    cases (show v = .non from h)
    exact .non
  | some ys =>
    obtain ⟨p, rfl, _, e⟩ := h
    exact .lst (Or.inl (Or.inl e)) (dp_strs K H ys)
theorem show_strs : ∀ ys : List Str, PyData.showableAll (ys.map .str) = true ∧ PyData.hasDictAll (ys.map .str) = false ∧ PyData.depthAll (ys.map .str) = 0 ∧ PyData.shownAll (ys.map .str) = ys.map reprText
  | [] => ⟨rfl, rfl, rfl, rfl⟩
  | y :: ys => by
    obtain ⟨h1, h2, h3, h4⟩ := show_strs ys
    refine ⟨?_, ?_, ?_, ?_⟩
    · simp [PyData.showableAll, PyData.showable, h1]
    · simp [PyData.hasDictAll, PyData.hasDict, h2]
    · simp [PyData.depthAll, PyData.depth, h3]
    · simp [PyData.shownAll, PyData.shown, h4]
theorem len_reprs {n : Nat} : ∀ {ys : List Str}, (∀ y ∈ ys, Sg y n) → ((ys.map reprText).map (·.length)).sum ≤ 10 * (ys.map (·.length)).sum + 2 * ys.length
  | [], _ => Nat.zero_le _
  | y :: ys, h => by
    have h1 := StrLaws.reprText_len y (fun c hc => Nat.lt_trans ((h y List.mem_cons_self).2 c hc) (by decide))
    have h2 := len_reprs (ys := ys) fun x hx => h x (List.mem_cons_of_mem _ hx)
    simp only [List.map_cons, List.sum_cons, List.length_cons]
    omega
/-- what a list of parts shows is not too long -/
def Fine (o : Option (List Str)) : Prop := (dOpt o).showable = true ∧ (dOpt o).hasDict = false ∧ (dOpt o).depth ≤ 60 ∧ (dOpt o).shown.length ≤ sizeLine
theorem fine_none : Fine none := ⟨rfl, rfl, by decide, by decide +kernel⟩
theorem fine_split {z : Str} {m : Nat} (hz : Sg z 2000) (hm : m < 256) : Fine (some (Txt.split z ⟨#[m]⟩)) := by
  obtain ⟨h1, h2, h3, h4⟩ := show_strs (Txt.split z ⟨#[m]⟩)
  refine ⟨?_, ?_, ?_, ?_⟩
  · simpa [dOpt, PyData.showable] using h1
  · simpa [dOpt, PyData.hasDict] using h2
  · show PyData.depthAll _ + 1 ≤ 60
    omega
  · show (listText (PyData.shownAll _)).length ≤ sizeLine
    rw [h4]
    have a := listText_len_le ((Txt.split z ⟨#[m]⟩).map reprText)
    have b := len_reprs (hz.split hm)
    have c := PyProof.Rows.split_weight z ⟨#[m]⟩ (Nat.le_refl 1)
    have d := hz.1
    rw [List.length_map] at a
    exact Nat.le_trans (by omega : _ ≤ 100000) (by decide)
theorem fine_words {H : Hp} {v : V} {o : Option Str} (h : IsT H v o) : Fine (o.bind wordsM) := by
  cases o with
  | none => exact fine_none
  | some z =>
    show Fine (wordsM z)
    unfold wordsM
    split
    · exact fine_none
    · exact fine_split h.2 (by decide)
theorem fine_rows {H : Hp} {v : V} {o : Option Str} (h : IsT H v o) : Fine (o.bind rowsM) := by
  cases o with
  | none => exact fine_none
  | some z => exact fine_split h.2 (by decide)
theorem due_words (o : Option Str) : o.bind dueM = o.bind wordsM := by
  cases o with
  | none => rfl
  | some z => exact dueM_eq z
theorem IsT.mv {p : Addr} {H H' : Hp} {v : V} {o : Option Str} (h : IsT H v o) (hp : ∀ q, v = .ref q → q ≠ p) (m : Mv p H H') : IsT H' v o := by
  cases o with
  | some z => exact h
  | none =>
    rcases h with h | h | h | ⟨q, e, ⟨xs, h⟩ | ⟨xs, h⟩ | ⟨xs, h⟩⟩
    · exact Or.inl h
    · exact Or.inr (Or.inl h)
    · exact Or.inr (Or.inr (Or.inl h))
    · exact Or.inr (Or.inr (Or.inr ⟨q, e, Or.inl ⟨xs, m _ _ (hp q e) h⟩⟩))
    · exact Or.inr (Or.inr (Or.inr ⟨q, e, Or.inr (Or.inl ⟨xs, m _ _ (hp q e) h⟩)⟩))
    · exact Or.inr (Or.inr (Or.inr ⟨q, e, Or.inr (Or.inr ⟨xs, m _ _ (hp q e) h⟩)⟩))
/-- a told thing that the asker changes: None, or a list that was not there -/
def Told (H8 H' : Hp) (L : Addr) (n : Nat) (u : V) : Prop := u = .non ∨ ∃ pu xs, u = .ref pu ∧ H8 pu = none ∧ pu ≠ L ∧ H' pu = some (.lst xs) ∧ xs.length ≤ n
theorem fold_rep (c : Nat) : ∀ (n : Nat) (acc : Array Nat), ((List.replicate n #[c]).foldl (· ++ ·) acc).toList = acc.toList ++ List.replicate n c
  | 0, acc => by simp
  | n + 1, acc => by
    rw [List.replicate_succ, List.foldl_cons, fold_rep c n, Array.toList_append, List.append_assoc]
    rfl
theorem cnt_rep (c : Nat) : ∀ n : Nat, PyProof.Rows.cnt c (List.replicate n c) = (n : Int)
  | 0 => rfl
  | n + 1 => by
    rw [List.replicate_succ, PyProof.Rows.cnt_cons, cnt_rep c n, if_pos rfl]
    omega
theorem tl_mul : TL.tl (Txt.mul ⟨#[10]⟩ 800) = List.replicate 800 10 := by
  show ((List.replicate 800 #[10]).foldl (· ++ ·) #[]).toList = _
  rw [fold_rep]
  rfl
theorem many_split : (Txt.split (Txt.mul ⟨#[10]⟩ 800) ⟨#[10]⟩).length = 801 := by
  have h := PyProof.Rows.split_len (Txt.mul ⟨#[10]⟩ 800) 10
  rw [show (Txt.mul ⟨#[10]⟩ 800).cps.toList = List.replicate 800 10 from tl_mul, cnt_rep] at h
  omega
theorem spl_snoc (m c : Nat) : ∀ (cs acc : List Nat) (A : List (List Nat)) (b : List Nat), TL.spl [m] 0 acc cs = A ++ [b] → TL.spl [m] 0 acc (cs ++ [c]) = if c = m then A ++ [b] ++ [[]] else A ++ [b ++ [c]]
  | [], acc, A, b, h => by
    have h' : [acc] = A ++ [b] := h
    have hA : A = [] := by
      cases A with
      | nil => rfl
      | cons x A => simp at h'
    subst hA
    have hb : acc = b := by simpa using h'
    subst hb
    show (if TL.pre [m] [c] = true then acc :: TL.spl [m] 0 [] [] else TL.spl [m] 0 (acc ++ [c]) []) = _
    have : TL.pre [m] [c] = decide (c = m) := by
      unfold TL.pre
      simp [Bool.beq_eq_decide_eq]
    rw [this]
    by_cases e : c = m
    · simp [e, TL.spl]
    · simp [e, TL.spl]
  | d :: r, acc, A, b, h => by
    have hp : ∀ l, TL.pre [m] (d :: l) = decide (d = m) := fun l => by
      unfold TL.pre
      simp <;> rfl
    by_cases e : d = m
    · have h' : acc :: TL.spl [m] 0 [] r = A ++ [b] := by
        have := TL.spl_hit (S := [m]) (acc := acc) (r := r) (c := d) (by rw [hp]; simp [e])
        rw [← h, this]
        rfl
      have g : TL.spl [m] 0 acc (d :: r ++ [c]) = acc :: TL.spl [m] 0 [] (r ++ [c]) := TL.spl_hit (S := [m]) (acc := acc) (r := r ++ [c]) (c := d) (by rw [hp]; simp [e])
      rw [g]
      cases A with
      | nil =>
        have : TL.spl [m] 0 [] r = [] := by simpa using (List.cons.inj h').2
        exact absurd this (spl_ne m r [])
      | cons x A =>
        have h2 := List.cons.inj h'
        rw [spl_snoc m c r [] A b h2.2, h2.1]
        by_cases e2 : c = m <;> simp [e2]
    · have h' : TL.spl [m] 0 (acc ++ [d]) r = A ++ [b] := by
        have := TL.spl_miss (S := [m]) (acc := acc) (r := r) (c := d) (by rw [hp]; simp [e])
        rw [← h, this]
      have g : TL.spl [m] 0 acc (d :: r ++ [c]) = TL.spl [m] 0 (acc ++ [d]) (r ++ [c]) := TL.spl_miss (S := [m]) (acc := acc) (r := r ++ [c]) (c := d) (by rw [hp]; simp [e])
      rw [g, spl_snoc m c r (acc ++ [d]) A b h']
where spl_ne (m : Nat) : ∀ (cs acc : List Nat), TL.spl [m] 0 acc cs ≠ []
  | [], acc => by simp [TL.spl]
  | d :: r, acc => by
    unfold TL.spl
    split
    · simp
    · exact spl_ne m r _
def sp_law_cell (K : PySem.W.Frag) : Sp := fun vs H Q E =>
  ∃ (a : Addr) (ns : List Int) (k : Nat), vs = [.ref a, .int (k : Int)] ∧ SqL K H a (ns.map V.int) ∧ k ≤ 63 ∧ ∀ z : Int, Q (.int z) H
def sp_law_bag (K : PySem.W.Frag) : Sp := fun vs H Q E =>
  ∃ (z : Int), vs = [.int z] ∧ ∀ p H', H p = none → Same H H' → Bg H' p 0 → Q (.ref p) H'
def sp_law_take (K : PySem.W.Frag) : Sp := fun vs H Q E =>
  ∃ (p : Addr) (m : Int) (n : Nat), vs = [.ref p, .int m] ∧ 0 < m ∧ m < 2 ^ 120 ∧ n ≤ 1000000 ∧ Bg H p n ∧ ∀ (z : Int) (H' : Hp), 0 ≤ z → z < m → Bg H' p (n + 1) → Mv p H H' → Q (.int z) H'
def sp_law_any (K : PySem.W.Frag) : Sp := fun vs H Q E =>
  ∃ (p : Addr) (n : Nat), vs = [.ref p] ∧ n ≤ 999999 ∧ Bg H p n ∧ ∀ v H', (∃ o, IsT H' v o) → (∀ q, v = .ref q → q ≠ p) → Bg H' p (n + 1) → Mv p H H' → Q v H'
def sp_law_parted (K : PySem.W.Frag) : Sp := fun vs H Q E =>
  ∃ (z : Str) (k : Str) (m : Nat), vs = [.str z, .str k] ∧ k = ⟨#[m]⟩ ∧ Sg z 2000 ∧ m < 256 ∧ ∀ p, H p = none → Q (.ref p) (upd H p (.lst ((Txt.split z ⟨#[m]⟩).map V.str)))
def sp_words_in (K : PySem.W.Frag) : Sp := fun vs H Q E =>
  ∃ v o, vs = [v] ∧ IsT H v o ∧ ∀ v' H', Same H H' → OptL H H' (o.bind wordsM) v' → Q v' H'
def sp_rows_in (K : PySem.W.Frag) : Sp := fun vs H Q E =>
  ∃ v o, vs = [v] ∧ IsT H v o ∧ ∀ v' H', Same H H' → OptL H H' (o.bind rowsM) v' → Q v' H'
def sp_law_words_due (K : PySem.W.Frag) : Sp := fun vs H Q E =>
  ∃ v o, vs = [v] ∧ IsT H v o ∧ ∀ v' H', Same H H' → OptL H H' (o.bind dueM) v' → Q v' H'
def sp_law_word (K : PySem.W.Frag) : Sp := fun vs H Q E =>
  ∃ (p : Addr) (n : Nat), vs = [.ref p] ∧ n ≤ 900000 ∧ Bg H p n ∧ ∀ z H', Sg z 93 → Bg H' p (n + 20) → Mv p H H' → Q (.str z) H'
def sp_law_text (K : PySem.W.Frag) : Sp := fun vs H Q E =>
  ∃ (p : Addr) (n : Nat), vs = [.ref p] ∧ n ≤ 800000 ∧ Bg H p n ∧ ∀ z H', Sg z 2000 → Bg H' p (n + 300) → Mv p H H' → Q (.str z) H'
def sp_law (K : PySem.W.Frag) : Sp := fun vs H Q E =>
  ∃ (a : Addr) (ns : List Int), vs = [.ref a] ∧ SqL K H a (ns.map V.int) ∧ ns.length ≤ 63 ∧ ∀ H', Q (.bl true) H'
structure Txt (P : Program) (K : PySem.W.Frag) (mg : Str → Option Value) (f : Nat → Addr) (d : Nat → FuncData) : Prop where
  F_law_cell : Fun K "_law_cell" "_law_cell" s_law_cell (f 0) (d 0)
  m__law_cell : mg "_law_cell" = some (.ref (f 0))
  k__law_cell : PySem.W.keepIn K (.ref (f 0)) = true
  b__law_cell : Binds K (d 0) ["_law_script", "_law_k"] []
  F_law_bag : Fun K "_law_bag" "_law_bag" s_law_bag (f 1) (d 1)
  m__law_bag : mg "_law_bag" = some (.ref (f 1))
  k__law_bag : PySem.W.keepIn K (.ref (f 1)) = true
  b__law_bag : Binds K (d 1) ["_law_cell_here"] []
  F_law_take : Fun K "_law_take" "_law_take" s_law_take (f 2) (d 2)
  m__law_take : mg "_law_take" = some (.ref (f 2))
  k__law_take : PySem.W.keepIn K (.ref (f 2)) = true
  b__law_take : Binds K (d 2) ["_law_bag_here", "_law_many"] []
  F_law_any : Fun K "_law_any" "_law_any" s_law_any (f 3) (d 3)
  m__law_any : mg "_law_any" = some (.ref (f 3))
  k__law_any : PySem.W.keepIn K (.ref (f 3)) = true
  b__law_any : Binds K (d 3) ["_law_bag_here"] []
  F_law_parted : Fun K "_law_parted" "_law_parted" s_law_parted (f 4) (d 4)
  m__law_parted : mg "_law_parted" = some (.ref (f 4))
  k__law_parted : PySem.W.keepIn K (.ref (f 4)) = true
  b__law_parted : Binds K (d 4) ["_law_text_here", "_law_mark"] []
  F_words_in : Fun K "words_in" "words_in" s_words_in (f 5) (d 5)
  m_words_in : mg "words_in" = some (.ref (f 5))
  k_words_in : PySem.W.keepIn K (.ref (f 5)) = true
  b_words_in : Binds K (d 5) ["thing"] []
  F_rows_in : Fun K "rows_in" "rows_in" s_rows_in (f 6) (d 6)
  m_rows_in : mg "rows_in" = some (.ref (f 6))
  k_rows_in : PySem.W.keepIn K (.ref (f 6)) = true
  b_rows_in : Binds K (d 6) ["thing"] []
  F_law_words_due : Fun K "_law_words_due" "_law_words_due" s_law_words_due (f 7) (d 7)
  m__law_words_due : mg "_law_words_due" = some (.ref (f 7))
  k__law_words_due : PySem.W.keepIn K (.ref (f 7)) = true
  b__law_words_due : Binds K (d 7) ["_law_text_here"] []
  F_law_word : Fun K "_law_word" "_law_word" s_law_word (f 8) (d 8)
  m__law_word : mg "_law_word" = some (.ref (f 8))
  k__law_word : PySem.W.keepIn K (.ref (f 8)) = true
  b__law_word : Binds K (d 8) ["_law_bag_here"] []
  F_law_text : Fun K "_law_text" "_law_text" s_law_text (f 9) (d 9)
  m__law_text : mg "_law_text" = some (.ref (f 9))
  k__law_text : PySem.W.keepIn K (.ref (f 9)) = true
  b__law_text : Binds K (d 9) ["_law_bag_here"] []
  F_law : Fun K "law" "law" s_law (f 10) (d 10)
  m_law : mg "law" = some (.ref (f 10))
  k_law : PySem.W.keepIn K (.ref (f 10)) = true
  b_law : Binds K (d 10) ["_law_script"] []
  z_any : mg "any" = none
  z_int : mg "int" = none
  z_isinstance : mg "isinstance" = none
  z_len : mg "len" = none
  z_list : mg "list" = none
  z_max : mg "max" = none
  z_min : mg "min" = none
  z_range : mg "range" = none
  z_repr : mg "repr" = none
  z_str : mg "str" = none
  nb : PySem.W.nsIn K cStatics sharingNotToldKey = some none
local macro_rules | `(tactic| walk_at "ne") => `(tactic| first | (with_reducible assumption) | ((with_reducible apply Ne.symm); (with_reducible assumption)) | exact ne_new (by with_reducible assumption) (by walk_at "hx") | exact (ne_new (by with_reducible assumption) (by walk_at "hx")).symm)
local macro_rules | `(tactic| walk_at "bg") => `(tactic| first | (with_reducible assumption) | ((with_reducible refine Bg.new ?_ (by with_reducible assumption)); walk_at "bg") | ((with_reducible refine Bg.off ?_ (by walk_at "ne")); walk_at "bg"))
local macro_rules | `(tactic| walk_at "hx") => `(tactic| first | (with_reducible assumption) | (with_reducible exact upd_same) | ((with_reducible refine upd_keep (by with_reducible assumption) ?_); walk_at "hx") | ((with_reducible refine Eq.trans (upd_ne (by walk_at "ne")) ?_); walk_at "hx"))
local macro_rules | `(tactic| walk_at "mv") => `(tactic| first | (with_reducible exact Mv.refl _ _) | (with_reducible assumption) | ((with_reducible refine mv_new (by with_reducible assumption) ?_); walk_at "mv"))
local macro_rules | `(tactic| walk_at "sq") => `(tactic| first | assumption | exact Or.inl (Or.inl (by walk_at "hx")))
local macro_rules | `(tactic| walk_at "side") => `(tactic| first | ((try dsimp only); omega) | exact Or.inl ⟨by omega, by omega⟩ | exact ⟨by omega, by omega, by omega⟩ | exact wide_div (b := 128) (by omega) (by omega) (by omega) (by omega) | decide)
local macro_rules | `(tactic| walk_at "go1") => `(tactic| first
  | ((with_reducible apply g_var); (exact rfl))
  | with_reducible refine g_op ?_
  | with_reducible refine g_c ?_
  | with_reducible refine g_I0 ?_
  | with_reducible refine g_test ?_
  | with_reducible refine g_B ?_
  | with_reducible refine g_bl ?_
  | with_reducible refine g_cons ?_
  | with_reducible refine g_nil ?_
  | with_reducible refine g_call ?_
  | with_reducible refine g_CB ?_
  | with_reducible refine s_seq ?_
  | with_reducible refine s_next ?_
  | with_reducible refine s_asg ?_
  | with_reducible refine s_name ?_
  | with_reducible refine s_if ?_
  | with_reducible refine s_ret ?_
  | with_reducible refine s_retN ?_
  | with_reducible refine s_drop ?_
  | with_reducible refine s_sub ?_
  | with_reducible refine s_brk ?_
  | with_reducible refine s_cont ?_
  | with_reducible refine g_not ?_
  | with_reducible refine g_and ?_
  | with_reducible refine g_or ?_
  | with_reducible refine g_if ?_
  | with_reducible refine g_notV ?_
  | with_reducible refine g_andV ?_
  | with_reducible refine g_orV ?_
  | with_reducible refine g_un ?_
  | with_reducible refine g_is ?_
  | with_reducible refine g_isNot ?_
  | ((with_reducible apply g_eq); (exact rfl))
  | ((with_reducible apply g_ne); (exact rfl))
  | ((with_reducible apply g_ixL); (walk_at "sq"); (exact rfl))
  | ((with_reducible apply g_I); (walk_at "side"))
  | ((with_reducible apply s_setL); (walk_at "hx"); (exact rfl))
  | ((with_reducible apply g_lenL); (walk_at "sq"))
  | ((with_reducible apply g_lenS); (first | assumption | exact Nat.le_trans (by assumption) (by decide)))
  | with_reducible refine g_int ?_
  | with_reducible refine g_intB ?_
  | with_reducible refine g_max ?_
  | with_reducible refine g_min ?_
  | with_reducible refine g_lst ?_
  | with_reducible refine g_tup ?_
  | ((with_reducible apply g_slS); (first | assumption | exact Nat.le_trans (by assumption) (by decide)))
  | with_reducible refine g_BM ?_
  | with_reducible refine g_M1 ?_
  | with_reducible refine g_str ?_
  | with_reducible refine g_sl ?_
  | with_reducible refine g_noPart ?_
  | with_reducible refine g_part ?_
  | with_reducible refine g_ex ?_
  | with_reducible refine g_true ?_
  | with_reducible refine g_false ?_
  | ((with_reducible apply g_sz); (exact Nat.le_of_ble_eq_true rfl); intro _ _)
  | ((with_reducible refine g_dnew ?_); intro _ _)
  | ((with_reducible refine g_disp1 ?_); intro _ _)
  | with_reducible refine g_U ?_
  | with_reducible refine g_replIx ?_
  | with_reducible refine g_same ?_
  | with_reducible refine g_nt ?_
  | with_reducible refine g_nf ?_
  | with_reducible refine g_lc ?_
  | with_reducible refine s_for ?_
  | with_reducible refine g_rng1 ?_
  | ((with_reducible apply g_rngN); (omega))
  | with_reducible refine g_iList ?_
  | with_reducible refine g_iStr ?_
  | with_reducible refine g_its ?_
  | ((with_reducible apply g_itl); (walk_at "sq"))
  | ((with_reducible apply g_yes); (first | omega | decide))
  | ((with_reducible apply g_no); (first | omega | decide)))
local macro_rules | `(tactic| walk_at "go") => `(tactic| repeat (walk_at "go1"))
local macro_rules | `(tactic| walk_at "st") => `(tactic| repeat (first | with_reducible refine s_seq ?_ | with_reducible refine s_next ?_ | with_reducible refine s_asg ?_ | with_reducible refine s_name ?_ | with_reducible refine s_drop ?_ | with_reducible refine s_ret ?_))

section
variable {P : Program} {w : World} {K : PySem.W.Frag} {mg : Str → Option Value} {base : Heap} {f : Nat → Addr} {d : Nat → FuncData}
theorem ok_law_cell (T : Txt P K mg f d) : FnOk P w K mg base CX0 1 (f 0) (d 0) ["_law_script", "_law_k"] (sp_law_cell K) := by
  refine T.F_law_cell.ok sc_law_cell (fun vs H Q E h => ?_) (fun cdv A outer s H vs Q E hr h => ?_)
  · obtain ⟨a, ns, k, rfl, hs, hk, q⟩ := h
    rfl
  · obtain ⟨a, ns, k, rfl, hs, hk, q⟩ := h
    refine ⟨_, (pss_cons (ps_if (pt_cmpR op_lt (pv 1) (pe_callB (call_lenV (K := K)) (by rfl) T.z_len (by decide +kernel) (pa_cons (pv 0) pa_nil)) (nomark _)) (pss_one (ps_ret (pe_ix (ix_listV (K := K)) (pv 0) (pv 1) (fun _ _ => rfl)))) pss_nil)
      (pss_one (ps_ret (pe_op op_add (pe_op op_mul pe_int (pv 1)) pe_int)))), ?_⟩
    walk_at "go"
    refine g_two (fun h => ?_) (fun h => ?_)
    · walk_at "go"
      rw [List.length_map] at h
      have hkl : k < ns.length := by omega
      refine g_ixL hs (v := .int (ns[k]'hkl)) ?_ (q _)
      unfold atI ixN
      rw [List.length_map, if_pos (by omega), if_pos (by omega)]
      simp [hkl]
    · walk_at "go"
      exact q _
end
section
variable {P : Program} {w : World} {K : PySem.W.Frag} {mg : Str → Option Value} {base : Heap} {f : Nat → Addr} {d : Nat → FuncData}
theorem ok_law_bag (T : Txt P K mg f d) : FnOk P w K mg base CX0 1 (f 1) (d 1) ["_law_cell_here"] (sp_law_bag K) := by
  refine T.F_law_bag.ok sc_law_bag (fun vs H Q E h => ?_) (fun cdv A outer s H vs Q E hr h => ?_)
  · obtain ⟨z, rfl, q⟩ := h
    rfl
  · obtain ⟨z, rfl, q⟩ := h
    refine ⟨_, (pss_one (ps_ret (pe_lst (pa_cons (pe_callB (call_maxV rfl) (by rfl) T.z_max (by decide +kernel) (pa_cons pe_int (pa_cons (pe_op op_sub (pv 0) (pe_op op_pow pe_int pe_int)) pa_nil))) (pa_cons (pe_op op_mod (pv 0) pe_int) (pa_cons pe_int pa_nil)))))), ?_⟩
    walk_at "go"
    rename_i p hp
    refine q p _ hp (fun b o e => ?_) ⟨_, _, _, upd_same, ?_, ?_, ?_, ?_⟩
    · rw [upd_ne (ne_of_none e hp)]
      exact e
    all_goals omega
end
section
variable {P : Program} {w : World} {K : PySem.W.Frag} {mg : Str → Option Value} {base : Heap} {f : Nat → Addr} {d : Nat → FuncData}
theorem ok_law_take (T : Txt P K mg f d) : FnOk P w K mg base CX0 1 (f 2) (d 2) ["_law_bag_here", "_law_many"] (sp_law_take K) := by
  refine T.F_law_take.ok sc_law_take (fun vs H Q E h => ?_) (fun cdv A outer s H vs Q E hr h => ?_)
  · obtain ⟨p, m, n, rfl, hm, hM, hn, ⟨a, b, c, hp, hb0, hb1, hc0, hc1⟩, q⟩ := h
    rfl
  · obtain ⟨p, m, n, rfl, hm, hM, hn, ⟨a, b, c, hp, hb0, hb1, hc0, hc1⟩, q⟩ := h
    refine ⟨_, (pss_cons (ps_if (pt_cmpR op_gt (pe_ix (ix_listV (K := K)) (pv 0) pe_int (fun _ _ => rfl)) pe_int (nomark _)) (pss_cons (ps_set (i := 2) sc_law_take.nd rfl (.inl rfl) (pe_op op_mod (pe_ix (ix_listV (K := K)) (pv 0) pe_int (fun _ _ => rfl)) (pv 1)))
      (pss_cons (ps_asg (pe_op op_fdivW (pe_ix (ix_listV (K := K)) (pv 0) pe_int (fun _ _ => rfl)) (pv 1)) (pg_sub (pv 0) pe_int set_list))
      (pss_one (ps_ret (pv 2))))) pss_nil)
      (pss_cons (ps_asg (pe_op op_add (pe_ix (ix_listV (K := K)) (pv 0) pe_int (fun _ _ => rfl)) pe_int) (pg_sub (pv 0) pe_int set_list))
      (pss_cons (ps_set (i := 3) sc_law_take.nd rfl (.inl rfl) (pe_op op_mod (pe_op op_pow (pe_op op_add (pe_op op_add (pe_ix (ix_listV (K := K)) (pv 0) pe_int (fun _ _ => rfl)) (pe_op op_mul pe_int (pe_ix (ix_listV (K := K)) (pv 0) pe_int (fun _ _ => rfl)))) pe_int) pe_int) pe_int))
      (pss_cons (ps_set (i := 3) sc_law_take.nd rfl (.inl rfl) (pe_op op_mod (pe_op op_pow (pe_op op_add (pv 3) (pe_op op_mul pe_int (pe_ix (ix_listV (K := K)) (pv 0) pe_int (fun _ _ => rfl)))) pe_int) pe_int))
      (pss_one (ps_ret (pe_op op_mod (pe_op op_fdivW (pv 3) pe_int) (pv 1)))))))), ?_⟩
    walk_at "go"
    refine g_two (fun h => ?_) (fun h => ?_)
    · walk_at "go"
      refine q _ _ (Int.emod_nonneg _ (by omega)) (Int.emod_lt_of_pos _ hm) ⟨_, _, _, upd_same, hb0, hb1, hc0, by omega⟩ (Mv.upd p H _)
    · walk_at "go"
      refine q _ _ (Int.emod_nonneg _ (by omega)) (Int.emod_lt_of_pos _ hm) ⟨_, _, _, upd_same, hb0, hb1, by omega, by omega⟩ (Mv.upd p H _)
end
section
variable {P : Program} {w : World} {K : PySem.W.Frag} {mg : Str → Option Value} {base : Heap} {f : Nat → Addr} {d : Nat → FuncData}
theorem ok_law_any (T : Txt P K mg f d) : FnOk P w K mg base CX0 2 (f 3) (d 3) ["_law_bag_here"] (sp_law_any K) := by
  refine T.F_law_any.ok sc_law_any (fun vs H Q E h => ?_) (fun cdv A outer s H vs Q E hr h => ?_)
  · obtain ⟨p, n, rfl, hn, B, q⟩ := h
    rfl
  · obtain ⟨p, n, rfl, hn, B, q⟩ := h
    refine ⟨_, (pss_cons (ps_set (i := 1) sc_law_any.nd rfl (.inl rfl) (pe_lst (pa_cons pe_non (pa_cons pe_bl (pa_cons pe_bl (pa_cons (pe_op op_sub pe_int pe_int) (pa_cons (pe_op op_pow pe_int pe_int) (pa_cons pe_str (pa_cons pe_str (pa_cons pe_str (pa_cons (pe_lst pa_nil) (pa_cons (pe_lst (pa_cons pe_str pa_nil)) (pa_cons (pe_tup (pa_cons pe_str pa_nil)) (pa_cons (pe_tup pa_nil) (pa_cons pe_dnewK (pa_cons (pe_disp (pps_cons pe_str pe_int pps_nil) (by rfl) (by rfl) (fun z => by cases z) (by decide)) (pa_cons (pe_lst (pa_cons (pe_lst (pa_cons pe_int pa_nil)) pa_nil)) pa_nil)))))))))))))))))
      (pss_one (ps_ret (pe_ix (ix_listV (K := K)) (pv 1) (pe_call (ok_law_take T) (hr.mono (by decide)) rfl T.m__law_take T.k__law_take T.b__law_take .nil pass0 (pa_cons (pv 0) (pa_cons pe_int pa_nil))) (fun _ _ => rfl))))), ?_⟩
    walk_at "go"
    rename_i a1 h1 a2 h2 a3 h3 a4 h4 a5 h5 a6 h6 a7 h7 a8 h8 a9 h9
    have n1 : a1 ≠ p := ne_bag h1 B
    have n2 : a2 ≠ p := ne_bag h2 (n := n) (by walk_at "bg")
    have n3 : a3 ≠ p := ne_bag h3 (n := n) (by walk_at "bg")
    have n4 : a4 ≠ p := ne_bag h4 (n := n) (by walk_at "bg")
    have n5 : a5 ≠ p := ne_bag h5 (n := n) (by walk_at "bg")
    have n6 : a6 ≠ p := ne_bag h6 (n := n) (by walk_at "bg")
    have n7 : a7 ≠ p := ne_bag h7 (n := n) (by walk_at "bg")
    have n8 : a8 ≠ p := ne_bag h8 (n := n) (by walk_at "bg")
    have n9 : a9 ≠ p := ne_bag h9 (n := n) (by walk_at "bg")
    refine ⟨p, 15, n, rfl, by decide, by decide, by omega, by walk_at "bg", fun z H1 z0 z1 B1 M1 => ?_⟩
    walk_at "go"
    obtain ⟨v, hv, ix⟩ := ix_draw (K := K) (M1 a9 _ n9 upd_same) z0 z1 rfl
    refine ix _ ?_
    have M0 : Mv p H H1 := Mv.trans (by walk_at "mv") M1
    have e1 := M1 a1 _ n1 (by walk_at "hx")
    have e2 := M1 a2 _ n2 (by walk_at "hx")
    have e3 := M1 a3 _ n3 (by walk_at "hx")
    have e4 := M1 a4 _ n4 (by walk_at "hx")
    have e5 := M1 a5 _ n5 (by walk_at "hx")
    have e6 := M1 a6 _ n6 (by walk_at "hx")
    have e8 := M1 a8 _ n8 (by walk_at "hx")
    have rf : ∀ q, q ≠ p → ((∃ xs, H1 q = some (.lst xs)) ∨ (∃ xs, H1 q = some (.tup xs)) ∨ ∃ kvs, H1 q = some (.dK kvs)) → (∃ o, IsT H1 (.ref q) o) ∧ ∀ r, V.ref q = .ref r → r ≠ p := by
      intro q hq h
      refine ⟨⟨none, Or.inr (Or.inr (Or.inr ⟨q, rfl, h⟩))⟩, ?_⟩
      intro r er
      cases er
      exact hq
    suffices h : (∃ o, IsT H1 v o) ∧ ∀ q, v = .ref q → q ≠ p from q v H1 h.1 h.2 B1 M0
    simp only [List.mem_cons, List.not_mem_nil, or_false] at hv
    rcases hv with rfl | rfl | rfl | rfl | rfl | rfl | rfl | rfl | rfl | rfl | rfl | rfl | rfl | rfl | rfl
    · exact ⟨⟨none, Or.inl rfl⟩, fun _ h => nomatch h⟩
    · exact ⟨⟨none, Or.inr (Or.inl ⟨_, rfl⟩)⟩, fun _ h => nomatch h⟩
    · exact ⟨⟨none, Or.inr (Or.inl ⟨_, rfl⟩)⟩, fun _ h => nomatch h⟩
    · exact ⟨⟨none, Or.inr (Or.inr (Or.inl ⟨_, rfl⟩))⟩, fun _ h => nomatch h⟩
    · exact ⟨⟨none, Or.inr (Or.inr (Or.inl ⟨_, rfl⟩))⟩, fun _ h => nomatch h⟩
    · exact ⟨⟨some _, rfl, Sg.of (by decide +kernel)⟩, fun _ h => nomatch h⟩
    · exact ⟨⟨some _, rfl, Sg.of (by decide +kernel)⟩, fun _ h => nomatch h⟩
    · exact ⟨⟨some _, rfl, Sg.of (by decide +kernel)⟩, fun _ h => nomatch h⟩
    · exact rf a1 n1 (Or.inl ⟨_, e1⟩)
    · exact rf a2 n2 (Or.inl ⟨_, e2⟩)
    · exact rf a3 n3 (Or.inr (Or.inl ⟨_, e3⟩))
    · exact rf a4 n4 (Or.inr (Or.inl ⟨_, e4⟩))
    · exact rf a5 n5 (Or.inr (Or.inr ⟨_, e5⟩))
    · exact rf a6 n6 (Or.inr (Or.inr ⟨_, e6⟩))
    · exact rf a8 n8 (Or.inl ⟨_, e8⟩)
end
section
variable {P : Program} {w : World} {K : PySem.W.Frag} {mg : Str → Option Value} {base : Heap} {f : Nat → Addr} {d : Nat → FuncData}
theorem ok_law_parted (T : Txt P K mg f d) : FnOk P w K mg base CX0 1 (f 4) (d 4) ["_law_text_here", "_law_mark"] (sp_law_parted K) := by
  refine T.F_law_parted.ok sc_law_parted (fun vs H Q E h => ?_) (fun cdv A outer s H vs Q E hr h => ?_)
  · obtain ⟨z, k, m, rfl, ek, hz, hm, q⟩ := h
    rfl
  · obtain ⟨z, k, m, rfl, ek, hz, hm, q⟩ := h
    refine ⟨_, (pss_cons (ps_set (i := 2) sc_law_parted.nd rfl (.inl rfl) (pe_lst (pa_cons pe_str pa_nil)))
      (pss_cons (ps_for PassesOwn.never rfl (pi_str (pv 0)) (pg_name (i := 3) sc_law_parted.nd rfl (.inl rfl)) (pss_one (ps_if (pt_cmpR op_eq (pv 3) (pv 1) (nomark _)) (pss_one (ps_expr (pe_bm PySem.F.plainAttrs_list PySem.F.slot_list_append PySem.F.type_list_append mt_append (pv 2) (pa_cons pe_str pa_nil)))) (pss_one (ps_asg (pe_op op_addS (pe_ix (ix_listV (K := K)) (pv 2) (pe_un un_neg pe_int) (fun _ _ => rfl)) (pv 3)) (pg_sub (pv 2) (pe_un un_neg pe_int) set_list))))))
      (pss_one (ps_ret (pv 2))))), ?_⟩
    subst ek
    walk_at "go"
    rename_i D hD
    have hl : z.cps.size = (TL.tl z).length := by simp [TL.tl]
    refine for_it (n := z.cps.size) walk_str (fun i σ H' => ∃ (v : Option V) (pre : List Str) (l : Str), σ = [some (.str z), some (.str ⟨#[m]⟩), some (.ref D), v] ∧ H' = upd H D (.lst ((pre ++ [l]).map V.str)) ∧ (pre ++ [l]).length ≤ i + 1 ∧ l.length ≤ i ∧ (pre ++ [l]).map TL.tl = TL.spl [m] 0 [] ((TL.tl z).take i))
      ⟨none, [], Str.ofString "", rfl, rfl, Nat.le_refl _, by decide +kernel, ?_⟩ (fun _ _ _ _ _ => trivial) ?_ ?_
    · show [TL.tl (Str.ofString "")] = [[]]
      decide +kernel
    · rintro i x σ H1 H2 hi ⟨v, pre, l, rfl, rfl, hn, hll, sp⟩ ⟨rfl, c, hc, rfl⟩
      have hc2 : (TL.tl z)[i]? = some c := by simpa [TL.tl] using hc
      have snoc := spl_snoc m c ((TL.tl z).take i) [] (pre.map TL.tl) (TL.tl l) (by rw [← sp, List.map_append]; rfl)
      rw [← show (TL.tl z).take (i + 1) = (TL.tl z).take i ++ [c] from by rw [List.take_add_one, hc2]; rfl] at snoc
      have h2000 : z.cps.size ≤ 2000 := hz.1
      have lenT : ((pre ++ [l]).map V.str).length = pre.length + 1 := by simp
      have hn' : pre.length + 1 ≤ i + 1 := by simpa using hn
      walk_at "go"
      refine g_txt (fun e => ?_) (fun e => ?_)
      · walk_at "go"
        refine ⟨Or.inl ⟨rfl, _, Or.inl (Or.inl upd_same)⟩, ?_⟩
        walk_at "go"
        refine s_append upd_same (by rw [lenT]; exact Nat.lt_of_le_of_lt (by omega : pre.length + 1 ≤ 2001) (by decide)) ?_
        have ec : c = m := by
          have := congrArg TL.tl e
          simpa [TL.tl] using this
        refine ⟨_, pre ++ [l], Str.ofString "", rfl, ?_, by simp; omega, Nat.zero_le _, ?_⟩
        · rw [upd_upd, List.map_append (l₁ := pre ++ [l])]
          rfl
        · rw [snoc, if_pos ec]
          simp
          decide +kernel
      · walk_at "go"
        have ix : ixN ((pre ++ [l]).map V.str).length (-1) = some pre.length := by
          unfold ixN
          rw [lenT, if_neg (by decide), if_pos (by omega)]
          congr 1
          omega
        have at1 : atI ((pre ++ [l]).map V.str) (-1) = some (V.str l) := by
          unfold atI
          rw [ix]
          show ((pre ++ [l]).map V.str)[pre.length]? = _
          simp
        refine g_ixL (Or.inl (Or.inl upd_same)) at1 ?_
        walk_at "go"
        refine g_addS (Nat.le_trans (Nat.add_le_add hll (Nat.le_refl 1)) (Nat.le_trans (by omega : i + 1 ≤ 2001) (by decide))) ?_
        walk_at "go"
        refine s_setL upd_same ix ?_
        have nm : c ≠ m := fun z => e (by rw [z])
        refine ⟨_, pre, l ++ ⟨#[c]⟩, rfl, ?_, by simp; omega, ?_, ?_⟩
        · rw [upd_upd]
          congr 2
          simp
        · rw [TL.len_tl, TL.tl_append, List.length_append, ← TL.len_tl]
          exact Nat.add_le_add hll (Nat.le_refl 1)
        · rw [snoc, if_neg nm, List.map_append]
          simp [TL.tl_append]
          try rfl
    · rintro σ H1 ⟨v, pre, l, rfl, rfl, hn, hll, sp⟩
      walk_at "go"
      rw [show pre ++ [l] = Txt.split z ⟨#[m]⟩ from ?_]
      · exact q D hD
      · refine TL.map_tl_inj ?_
        rw [sp, hl, List.take_length, TL.split_spl z ⟨#[m]⟩ (by simp [TL.tl]) (TL.kind_ok (by simp [hm]))]
        try rfl
end
section
variable {P : Program} {w : World} {K : PySem.W.Frag} {mg : Str → Option Value} {base : Heap} {f : Nat → Addr} {d : Nat → FuncData}
theorem ok_words_in (T : Txt P K mg f d) : FnOk P w K mg base CX0 1 (f 5) (d 5) ["thing"] (sp_words_in K) := by
  refine T.F_words_in.ok sc_words_in (fun vs H Q E h => ?_) (fun cdv A outer s H vs Q E hr h => ?_)
  · obtain ⟨v, o, rfl, hv, q⟩ := h
    rfl
  · obtain ⟨v, o, rfl, hv, q⟩ := h
    refine ⟨_, (pss_cons (ps_if (pt_not (pt_val (pe_callB (call_isiV (K := K)) (by rfl) T.z_isinstance (by decide +kernel) (pa_cons (pv 0) (pa_cons (pe_bltn (v := .ty "str") (by rfl) T.z_str (by decide +kernel) rfl) pa_nil))))) (pss_one (ps_ret pe_non)) pss_nil)
      (pss_cons (ps_set (i := 1) sc_words_in.nd rfl (.inl rfl) (pe_bm PySem.F.plainAttrs_str PySem.F.slot_str_split PySem.F.type_str_split mt_splitV (pv 0) (pa_cons pe_str pa_nil)))
      (pss_cons (ps_if (pt_val (pe_callB (call_any (K := K) rfl) (by rfl) T.z_any (by decide +kernel) (pa_cons (pe_lc (own := [("word", 2)]) (g := gName 2) (tt := tYes) rfl sc_words_in.nd (pi_list (pv 1)) (blkOk_by (own := [("word", 2)]) (N := n_words_in) (sc := defScope s_words_in) (by decide +kernel)) (fun _ _ _ _ _ => pg_name (i := 2) sc_words_in.nd rfl (Or.inl rfl)) (fun _ _ _ _ _ => pts_nil) (fun _ _ _ _ _ => (pe_or (pe_cmpR op_eq (pv 2) pe_str (nomark _)) (pe_one (pe_cmpR op_inC pe_str (pv 2) rfl))))) pa_nil))) (pss_one (ps_ret pe_non)) pss_nil)
      (pss_one (ps_ret (pv 1)))))), ?_⟩
    have e32 : Str.ofString " " = ⟨#[32]⟩ := by decide +kernel
    walk_at "go"
    cases o with
    | none =>
      obtain ⟨ty, h1, h2⟩ := NoS.isi (K := K) hv
      refine g_isi (.ty "str") h1 h2 ?_
      walk_at "go"
      exact q _ _ (Same.refl H) rfl
    | some z =>
      obtain ⟨rfl, hz⟩ := hv
      refine g_isi (.ty "str") (isi_str (H := H) z).1 (isi_str (H := H) z).2 ?_
      walk_at "go"
      refine ⟨rfl, ?_⟩
      walk_at "go"
      refine g_split (by decide +kernel) (Nat.le_trans (Nat.add_le_add hz.1 (Nat.le_refl 2)) (by decide)) ?_
      rw [e32]
      intro pw hw
      walk_at "go"
      have len : (Txt.split z ⟨#[32]⟩).length ≤ 2002 := Nat.le_trans (PyProof.Rows.split_le z ⟨#[32]⟩) (Nat.add_le_add hz.1 (Nat.le_refl 2))
      refine lc_pure (K := K) (fun v => match v with | .str y => .bl (odd y) | _ => .non) (Or.inl (Or.inl upd_same)) (by rw [List.length_map]; exact Nat.lt_of_le_of_lt len (by decide)) (fun _ => rfl) ?_ ?_
      · intro x hx H2 R same r
        obtain ⟨y, hy, rfl⟩ := List.mem_map.mp hx
        walk_at "go"
        refine g_txt (fun e => ?_) (fun e => ?_)
        · have : odd y = true := by simp [odd, e]
          simp only [this] at r
          exact r
        · walk_at "go"
          refine g_inC (c := 10) (x := Str.ofString "\n") (by decide +kernel) ?_
          have : odd y = decide (10 ∈ y.cps.toList) := by simp [odd, e, TL.tl]
          simp only [this] at r
          exact r
      · intro D hD
        walk_at "go"
        refine g_any (K := K) (bs := (Txt.split z ⟨#[32]⟩).map odd) ?_ ?_
        · rw [List.map_map, List.map_map]
          exact Or.inl (Or.inl upd_same)
        · walk_at "go"
          have any : ((Txt.split z ⟨#[32]⟩).map odd).any id = (Txt.split z ⟨#[32]⟩).any odd := by rw [List.any_map]; rfl
          rw [any]
          have hDw := ne_of_none (upd_same (H := H) (a := pw) (o := .lst ((Txt.split z ⟨#[32]⟩).map V.str))) hD
          have keep : Same H (upd (upd H pw (.lst ((Txt.split z ⟨#[32]⟩).map V.str))) D (.lst (((Txt.split z ⟨#[32]⟩).map V.str).map (fun v => match v with | .str y => V.bl (odd y) | _ => .non)))) := fun b o e => upd_keep hD (upd_keep hw e)
          refine g_way (fun h => ?_) (fun h => ?_)
          · walk_at "go"
            refine q _ _ keep ?_
            show OptL _ _ (wordsM z) _
            unfold wordsM
            rw [if_pos h]
            rfl
          · walk_at "go"
            refine q _ _ keep ?_
            show OptL _ _ (wordsM z) _
            unfold wordsM
            rw [h, if_neg Bool.false_ne_true]
            exact ⟨pw, rfl, hw, upd_keep hD upd_same⟩
end
section
variable {P : Program} {w : World} {K : PySem.W.Frag} {mg : Str → Option Value} {base : Heap} {f : Nat → Addr} {d : Nat → FuncData}
theorem ok_rows_in (T : Txt P K mg f d) : FnOk P w K mg base CX0 1 (f 6) (d 6) ["thing"] (sp_rows_in K) := by
  refine T.F_rows_in.ok sc_rows_in (fun vs H Q E h => ?_) (fun cdv A outer s H vs Q E hr h => ?_)
  · obtain ⟨v, o, rfl, hv, q⟩ := h
    rfl
  · obtain ⟨v, o, rfl, hv, q⟩ := h
    refine ⟨_, (pss_one (ps_ret (pe_ifExp (pt_val (pe_callB (call_isiV (K := K)) (by rfl) T.z_isinstance (by decide +kernel) (pa_cons (pv 0) (pa_cons (pe_bltn (v := .ty "str") (by rfl) T.z_str (by decide +kernel) rfl) pa_nil)))) (pe_bm PySem.F.plainAttrs_str PySem.F.slot_str_split PySem.F.type_str_split mt_splitV (pv 0) (pa_cons pe_str pa_nil)) pe_non))), ?_⟩
    have e10 : Str.ofString "\n" = ⟨#[10]⟩ := by decide +kernel
    walk_at "go"
    cases o with
    | none =>
      obtain ⟨ty, h1, h2⟩ := NoS.isi (K := K) hv
      refine g_isi (.ty "str") h1 h2 ?_
      walk_at "go"
      exact q _ _ (Same.refl H) rfl
    | some z =>
      obtain ⟨rfl, hz⟩ := hv
      refine g_isi (.ty "str") (isi_str (H := H) z).1 (isi_str (H := H) z).2 ?_
      walk_at "go"
      refine ⟨rfl, ?_⟩
      walk_at "go"
      refine g_split (by decide +kernel) (Nat.le_trans (Nat.add_le_add hz.1 (Nat.le_refl 2)) (by decide)) ?_
      rw [e10]
      intro pw hw
      exact q _ _ (fun b o e => upd_keep hw e) ⟨pw, rfl, hw, upd_same⟩
end
section
variable {P : Program} {w : World} {K : PySem.W.Frag} {mg : Str → Option Value} {base : Heap} {f : Nat → Addr} {d : Nat → FuncData}
theorem ok_law_words_due (T : Txt P K mg f d) : FnOk P w K mg base CX0 2 (f 7) (d 7) ["_law_text_here"] (sp_law_words_due K) := by
  refine T.F_law_words_due.ok sc_law_words_due (fun vs H Q E h => ?_) (fun cdv A outer s H vs Q E hr h => ?_)
  · obtain ⟨v, o, rfl, hv, q⟩ := h
    rfl
  · obtain ⟨v, o, rfl, hv, q⟩ := h
    refine ⟨_, (pss_cons (ps_if (PW.pt (pw_or (pt_not (pt_val (pe_callB (call_isiV (K := K)) (by rfl) T.z_isinstance (by decide +kernel) (pa_cons (pv 0) (pa_cons (pe_bltn (v := .ty "str") (by rfl) T.z_str (by decide +kernel) rfl) pa_nil))))) (pw_or1 (pt_cmpR op_inC pe_str (pv 0) rfl)))) (pss_one (ps_ret pe_non)) pss_nil)
      (pss_cons (ps_set (i := 1) sc_law_words_due.nd rfl (.inl rfl) (pe_call (ok_law_parted T) (hr.mono (by decide)) rfl T.m__law_parted T.k__law_parted T.b__law_parted .nil pass0 (pa_cons (pv 0) (pa_cons pe_str pa_nil))))
      (pss_one (ps_ret (pe_ifExp (pt_cmpR (op_inL (K := K)) pe_str (pv 1) rfl) pe_non (pv 1)))))), ?_⟩
    walk_at "go"
    cases o with
    | none =>
      obtain ⟨ty, h1, h2⟩ := NoS.isi (K := K) hv
      refine g_isi (.ty "str") h1 h2 ?_
      walk_at "go"
      exact q _ _ (Same.refl H) rfl
    | some z =>
      obtain ⟨rfl, hz⟩ := hv
      refine g_isi (.ty "str") (isi_str (H := H) z).1 (isi_str (H := H) z).2 ?_
      walk_at "go"
      refine g_inC (c := 10) (x := Str.ofString "\n") (by decide +kernel) ?_
      walk_at "go"
      refine g_two (fun h => ?_) (fun h => ?_)
      · walk_at "go"
        refine q _ _ (Same.refl H) ?_
        show OptL _ _ (dueM z) _
        unfold dueM
        rw [if_pos h]
        rfl
      · walk_at "go"
        refine ⟨z, _, 32, rfl, by decide +kernel, hz, by decide, fun p hp => ?_⟩
        walk_at "go"
        have flat : ((Txt.split z ⟨#[32]⟩).map V.str).all flatV = true := by
          rw [List.all_eq_true]
          intro x hx
          obtain ⟨y, _, rfl⟩ := List.mem_map.mp hx
          rfl
        refine g_inL (K := K) (Or.inl (Or.inl upd_same)) rfl flat ?_
        have inv : inV (V.str (Str.ofString "")) ((Txt.split z ⟨#[32]⟩).map V.str) = (Txt.split z ⟨#[32]⟩).any (fun y => decide (y = Str.ofString "")) := by
          unfold inV
          rw [List.any_map]
          rfl
        rw [inv]
        walk_at "go"
        refine g_way (fun h2 => ?_) (fun h2 => ?_)
        · walk_at "go"
          refine q _ _ (fun b o e => upd_keep hp e) ?_
          show OptL _ _ (dueM z) _
          unfold dueM
          rw [if_neg h, if_pos h2]
          rfl
        · walk_at "go"
          refine q _ _ (fun b o e => upd_keep hp e) ?_
          show OptL _ _ (dueM z) _
          unfold dueM
          rw [if_neg h, h2, if_neg Bool.false_ne_true]
          exact ⟨p, rfl, hp, upd_same⟩
end
section
variable {P : Program} {w : World} {K : PySem.W.Frag} {mg : Str → Option Value} {base : Heap} {f : Nat → Addr} {d : Nat → FuncData}
theorem ok_law_word (T : Txt P K mg f d) : FnOk P w K mg base CX0 2 (f 8) (d 8) ["_law_bag_here"] (sp_law_word K) := by
  refine T.F_law_word.ok sc_law_word (fun vs H Q E h => ?_) (fun cdv A outer s H vs Q E hr h => ?_)
  · obtain ⟨p, n, rfl, hn, B, q⟩ := h
    rfl
  · obtain ⟨p, n, rfl, hn, B, q⟩ := h
    refine ⟨_, (pss_cons (ps_set (i := 1) sc_law_word.nd rfl (.inr rfl) pe_str)
      (pss_cons (ps_set (i := 1) sc_law_word.nd rfl (.inr rfl) (pe_op op_addS (pv 1) pe_str))
      (pss_cons (ps_set (i := 2) sc_law_word.nd rfl (.inl rfl) (pe_bm PySem.F.plainAttrs_str PySem.F.slot_str_join PySem.F.type_str_join (mt_joinV (K := K)) pe_str (pa_cons (pe_lc (own := [("_law_k", 3)]) (g := gName 3) (tt := tYes) rfl sc_law_word.nd (pi_range1 (by rfl) T.z_range (pa_cons (pe_op op_add pe_int (pe_call (ok_law_take T) (hr.mono (by decide)) rfl T.m__law_take T.k__law_take T.b__law_take .nil pass0 (pa_cons (pv 0) (pa_cons pe_int pa_nil)))) pa_nil)) (blkOk_by (own := [("_law_k", 3)]) (N := n_law_word) (sc := defScope s_law_word) (by decide +kernel)) (fun _ _ _ _ _ => pg_name (i := 3) sc_law_word.nd rfl (Or.inl rfl)) (fun _ _ _ _ _ => pts_nil) (fun _ _ _ _ _ => (pe_ix ix_str (pv 1) (pe_call (ok_law_take T) (hr.mono (by decide)) rfl T.m__law_take T.k__law_take T.b__law_take .nil pass0 (pa_cons (pv 0) (pa_cons (pe_callB (call_lenV (K := K)) (by rfl) T.z_len (by decide +kernel) (pa_cons (pv 1) pa_nil)) pa_nil))) (fun _ _ => rfl)))) pa_nil)))
      (pss_one (ps_ret (pe_ix (ix_listV (K := K)) (pe_lst (pa_cons (pv 2) (pa_cons (pv 2) (pa_cons (pv 2) (pa_cons (pv 1) pa_nil))))) (pe_call (ok_law_take T) (hr.mono (by decide)) rfl T.m__law_take T.k__law_take T.b__law_take .nil pass0 (pa_cons (pv 0) (pa_cons pe_int pa_nil))) (fun _ _ => rfl))))))), ?_⟩
    walk_at "go"
    refine g_addS (by decide +kernel) ?_
    generalize eS : Str.ofString _ ++ Str.ofString _ = S
    have hS : Sg S 93 := by
      rw [← eS]
      exact Sg.of (by decide +kernel)
    have hL : S.length = 93 := by
      rw [← eS]
      decide +kernel
    have hSl : S.length ≤ sizeLine := by
      rw [hL]
      decide
    walk_at "go"
    refine ⟨rfl, ?_⟩
    walk_at "go"
    refine ⟨p, 9, n, rfl, by decide, by decide, by omega, B, fun r H1 r0 r1 B1 M1 => ?_⟩
    walk_at "go"
    refine lc_draw (p := p) (b0 := n + 1) (c := 1) (fun v => ∃ z, v = .str z ∧ Sg z 1) (Nat.lt_of_le_of_lt (by omega : (1 + r).toNat ≤ 9) (by decide)) B1 (fun _ => rfl) ?_ ?_
    · intro j H2 R hj B2 M2 k
      walk_at "go"
      refine ⟨p, (S.length : Int), n + 1 + j * 1, rfl, by rw [hL]; decide, by rw [hL]; decide, by omega, B2, fun z H3 z0 z1 B3 M3 => ?_⟩
      walk_at "go"
      obtain ⟨hz, e⟩ := atI_nat (xs := S.cps.toList) z0 (by rw [← show S.length = S.cps.toList.length from TL.len_tl S]; exact z1)
      refine g_ixS hSl e ?_
      exact k _ H3 ⟨_, rfl, hS.sign e⟩ (B3.mono (by omega)) M3
    · intro D H2 ys hD nD ly hys eD B2 M2
      obtain ⟨ws, rfl, hw⟩ := strs_of hys
      rw [List.length_map] at ly
      have ly9 : ws.length ≤ 9 := by omega
      walk_at "go"
      have sm := sum_le (n := 1) fun z hz => (hw z hz).1
      refine g_join (K := K) (Or.inl (Or.inl eD)) (by rw [show (Str.ofString "").length = 0 from by decide +kernel]; omega) ?_
      have hJ : Sg (Txt.join (Str.ofString "") ws) 93 := (Sg.join (y := Str.ofString "") (n := 1) (k := 9) (Sg.of (by decide +kernel)) ly9 hw).mono (by decide)
      generalize Txt.join (Str.ofString "") ws = J at hJ
      walk_at "go"
      rename_i l hl
      have nl := B2.ne hl
      refine ⟨p, 4, _, rfl, by decide, by decide, by omega, B2.new hl, fun z H3 z0 z1 B3 M3 => ?_⟩
      walk_at "go"
      obtain ⟨v, hv, ix⟩ := ix_draw (K := K) (M3 l _ nl upd_same) z0 z1 rfl
      refine ix _ ?_
      have fin : Bg H3 p (n + 20) ∧ Mv p H H3 := ⟨B3.mono (by omega), M1.trans (M2.trans ((Mv.new hl).trans M3))⟩
      simp only [List.mem_cons, List.not_mem_nil, or_false] at hv
      rcases hv with rfl | rfl | rfl | rfl
      · exact q _ _ hJ fin.1 fin.2
      · exact q _ _ hJ fin.1 fin.2
      · exact q _ _ hJ fin.1 fin.2
      · exact q _ _ hS fin.1 fin.2
end
section
variable {P : Program} {w : World} {K : PySem.W.Frag} {mg : Str → Option Value} {base : Heap} {f : Nat → Addr} {d : Nat → FuncData}
theorem ok_law_text (T : Txt P K mg f d) : FnOk P w K mg base CX0 3 (f 9) (d 9) ["_law_bag_here"] (sp_law_text K) := by
  refine T.F_law_text.ok sc_law_text (fun vs H Q E h => ?_) (fun cdv A outer s H vs Q E hr h => ?_)
  · obtain ⟨p, n, rfl, hn, B, q⟩ := h
    rfl
  · obtain ⟨p, n, rfl, hn, B, q⟩ := h
    refine ⟨_, (pss_cons (ps_set (i := 1) sc_law_text.nd rfl (.inl rfl) (pe_slice sl_str (pe_bm PySem.F.plainAttrs_str PySem.F.slot_str_join PySem.F.type_str_join (mt_joinV (K := K)) pe_str (pa_cons (pe_lc (own := [("_law_k", 2)]) (g := gName 2) (tt := tYes) rfl sc_law_text.nd (pi_range1 (by rfl) T.z_range (pa_cons (pe_op op_add pe_int (pe_call (ok_law_take T) (hr.mono (by decide)) rfl T.m__law_take T.k__law_take T.b__law_take .nil pass0 (pa_cons (pv 0) (pa_cons pe_int pa_nil)))) pa_nil)) (blkOk_by (own := [("_law_k", 2)]) (N := n_law_text) (sc := defScope s_law_text) (by decide +kernel)) (fun _ _ _ _ _ => pg_name (i := 2) sc_law_text.nd rfl (Or.inl rfl)) (fun _ _ _ _ _ => pts_nil) (fun _ _ _ _ _ => (pe_call (ok_law_word T) (hr.mono (by decide)) rfl T.m__law_word T.k__law_word T.b__law_word .nil pass0 (pa_cons (pv 0) pa_nil)))) pa_nil)) po_none (po_some pe_int)))
      (pss_cons (ps_set (i := 3) sc_law_text.nd rfl (.inl rfl) (pe_ix (ix_listV (K := K)) (pe_lst (pa_cons (pe_call (ok_law_take T) (hr.mono (by decide)) rfl T.m__law_take T.k__law_take T.b__law_take .nil pass0 (pa_cons (pv 0) (pa_cons (pe_op op_add (pe_callB (call_lenV (K := K)) (by rfl) T.z_len (by decide +kernel) (pa_cons (pv 1) pa_nil)) pe_int) pa_nil))) (pa_cons pe_int (pa_cons (pe_callB (call_lenV (K := K)) (by rfl) T.z_len (by decide +kernel) (pa_cons (pv 1) pa_nil)) pa_nil)))) (pe_call (ok_law_take T) (hr.mono (by decide)) rfl T.m__law_take T.k__law_take T.b__law_take .nil pass0 (pa_cons (pv 0) (pa_cons pe_int pa_nil))) (fun _ _ => rfl)))
      (pss_cons (ps_set (i := 4) sc_law_text.nd rfl (.inl rfl) (pe_call (ok_law_take T) (hr.mono (by decide)) rfl T.m__law_take T.k__law_take T.b__law_take .nil pass0 (pa_cons (pv 0) (pa_cons pe_int pa_nil))))
      (pss_cons (ps_if (pt_cmpR op_eq (pv 4) pe_int (nomark _)) (pss_one (ps_ret (pe_op op_addS (pe_op op_addS (pe_slice sl_str (pv 1) po_none (po_some (pv 3))) pe_str) (pe_slice sl_str (pv 1) (po_some (pv 3)) po_none)))) pss_nil)
      (pss_cons (ps_if (pt_cmpR op_eq (pv 4) pe_int (nomark _)) (pss_one (ps_ret (pe_replIx (pe_slice sl_str (pv 1) po_none (po_some (pv 3))) (pe_slice sl_str (pv 1) (po_some (pv 3)) po_none) (pe_call (ok_law_take T) (hr.mono (by decide)) rfl T.m__law_take T.k__law_take T.b__law_take .nil pass0 (pa_cons (pv 0) (pa_cons pe_int pa_nil))) (by decide +kernel) (by decide +kernel) T.nb (fun _ _ => rfl)))) pss_nil)
      (pss_cons (ps_if (pt_cmpR op_eq (pv 4) pe_int (nomark _)) (pss_one (ps_ret (pe_op op_addS (pe_slice sl_str (pv 1) po_none (po_some (pv 3))) (pe_slice sl_str (pv 1) (po_some (pe_op op_add (pv 3) pe_int)) po_none)))) pss_nil)
      (pss_one (ps_ret (pv 1))))))))), ?_⟩
    walk_at "go"
    refine ⟨rfl, ?_⟩
    walk_at "go"
    refine ⟨p, 9, n, rfl, by decide, by decide, by omega, B, fun r H1 r0 r1 B1 M1 => ?_⟩
    walk_at "go"
    refine lc_draw (p := p) (b0 := n + 1) (c := 20) (fun v => ∃ z, v = .str z ∧ Sg z 93) (Nat.lt_of_le_of_lt (by omega : (1 + r).toNat ≤ 9) (by decide)) B1 (fun _ => rfl) ?_ ?_
    · intro j H2 R hj B2 M2 k
      walk_at "go"
      refine ⟨p, n + 1 + j * 20, rfl, by omega, B2, fun z H3 hz B3 M3 => ?_⟩
      exact k _ H3 ⟨z, rfl, hz⟩ (B3.mono (by omega)) M3
    intro D H2 ys hD nD ly hys eD B2 M2
    obtain ⟨ws, rfl, hw⟩ := strs_of hys
    rw [List.length_map] at ly
    have ly9 : ws.length ≤ 9 := by omega
    walk_at "go"
    have sm := sum_le (n := 93) fun z hz => (hw z hz).1
    refine g_join (K := K) (Or.inl (Or.inl eD)) (by rw [show (Str.ofString " ").length = 1 from by decide +kernel]; omega) ?_
    have hJ0 := Sg.join (y := Str.ofString " ") (n := 93) (k := 9) (Sg.of (by decide +kernel)) ly9 hw
    generalize Txt.join (Str.ofString " ") ws = J0 at hJ0
    have hJl : J0.length ≤ sizeLine := Nat.le_trans hJ0.1 (by decide)
    walk_at "go"
    have hJ : Sg (cutS J0 none (some 799)) 799 := ⟨cut_len J0 799, (hJ0.cut none (some 799)).2⟩
    generalize cutS J0 none (some 799) = J at hJ
    have hJz : J.length ≤ sizeLine := Nat.le_trans hJ.1 (by decide)
    have hJ9 := hJ.1
    walk_at "go"
    refine ⟨p, (J.length : Int) + 1, _, rfl, by omega, by omega, by omega, B2, fun r2 H3 s0 s1 B3 M3 => ?_⟩
    walk_at "go"
    rename_i l hl
    have nl := B3.ne hl
    refine ⟨p, 3, _, rfl, by decide, by decide, by omega, B3.new hl, fun z H4 z0 z1 B4 M4 => ?_⟩
    walk_at "go"
    obtain ⟨v, hv, ix⟩ := ix_draw (K := K) (M4 l _ nl upd_same) z0 z1 rfl
    refine ix _ ?_
    have M04 : Mv p H H4 := M1.trans (M2.trans (M3.trans ((Mv.new hl).trans M4)))
    obtain ⟨t, rfl⟩ : ∃ t, v = .int t := by
      simp only [List.mem_cons, List.not_mem_nil, or_false] at hv
      rcases hv with rfl | rfl | rfl
      · exact ⟨_, rfl⟩
      · exact ⟨_, rfl⟩
      · exact ⟨_, rfl⟩
    walk_at "go"
    refine ⟨p, 6, _, rfl, by decide, by decide, by omega, B4, fun way H5 w0 w1 B5 M5 => ?_⟩
    have M05 : Mv p H H5 := M04.trans M5
    have hA := hJ.cut none (some t)
    have hC := hJ.cut (some t) none
    have hD2 := hJ.cut (some (t + 1)) none
    have hN : Sg (Str.ofString " ") 1 := Sg.of (by decide +kernel)
    have hM : Sg (Str.ofString "\n") 1 := Sg.of (by decide +kernel)
    have fitA := Nat.le_trans (hA.app hN).1 (show 799 + 1 ≤ sizeLine by decide)
    walk_at "go"
    refine g_int2 (fun h => ?_) (fun h => ?_)
    · walk_at "go"
      refine g_addS (Nat.le_trans (Nat.add_le_add hA.1 hN.1) (by decide)) ?_
      walk_at "go"
      refine g_addS (Nat.le_trans (Nat.add_le_add (hA.app hN).1 hC.1) (by decide)) ?_
      exact q _ _ (((hA.app hN).app hC).mono (by decide)) (B5.mono (by omega)) M05
    walk_at "go"
    refine g_int2 (fun h => ?_) (fun h => ?_)
    · walk_at "go"
      refine g_addS (Nat.le_trans (Nat.add_le_add hA.1 hM.1) (by decide)) ?_
      walk_at "go"
      refine ⟨_, _, rfl, rfl, Nat.le_trans (Nat.add_le_add (hA.app hM).1 hC.1) (by decide), ?_⟩
      intro pl o hpl
      have npl := B5.ne hpl
      walk_at "go"
      refine ⟨p, 2, _, rfl, by decide, by decide, by omega, B5.new hpl, fun z H6 z0 z1 B6 M6 => ?_⟩
      refine ⟨M6 pl _ npl upd_same, z.toNat, by rw [Int.toNat_of_nonneg z0], by omega, ?_⟩
      intro y hy
      rw [show Str.ofString " " = ⟨#[32]⟩ from by decide +kernel] at hy ⊢
      have hy1 : Sg y 1 := by
        rcases hy with rfl | rfl
        · exact Sg.of (by decide +kernel)
        · exact hM
      exact q _ _ ((((hA.app hM).app hC).repl hy1 (by decide)).mono (by decide)) (B6.mono (by omega)) (M05.trans ((Mv.new hpl).trans M6))
    walk_at "go"
    refine g_int2 (fun h => ?_) (fun h => ?_)
    · walk_at "go"
      refine g_addS (Nat.le_trans (Nat.add_le_add hA.1 hD2.1) (by decide)) ?_
      exact q _ _ ((hA.app hD2).mono (by decide)) (B5.mono (by omega)) M05
    · walk_at "go"
      exact q _ _ (hJ.mono (by decide)) (B5.mono (by omega)) M05
end
section
variable {P : Program} {w : World} {K : PySem.W.Frag} {mg : Str → Option Value} {base : Heap} {f : Nat → Addr} {d : Nat → FuncData}
theorem ok_law (T : Txt P K mg f d) : FnG P w K mg base 4 (f 10) (d 10) ["_law_script"] (sp_law K) := by
  refine fnG_of T.F_law sc_law (fun vs H Q E h => ?_) (fun cdv A outer s H vs Q E hr gua h => ?_)
  · obtain ⟨a, ns, rfl, hS, hlen, q⟩ := h
    rfl
  · obtain ⟨a, ns, rfl, hS, hlen, q⟩ := h
    refine ⟨_, (pss_cons (ps_for PassesOwn.never rfl (pi_range1 (by rfl) T.z_range (pa_cons (pe_callB (call_maxV rfl) (by rfl) T.z_max (by decide +kernel) (pa_cons pe_int (pa_cons (pe_callB (call_minV rfl) (by rfl) T.z_min (by decide +kernel) (pa_cons pe_int (pa_cons (pe_callB (call_lenV (K := K)) (by rfl) T.z_len (by decide +kernel) (pa_cons (pv 0) pa_nil)) pa_nil))) pa_nil))) pa_nil)) (pg_name (i := 1) sc_law.nd rfl (.inl rfl)) (pss_cons (ps_set (i := 2) sc_law.nd rfl (.inl rfl) (pe_call (ok_law_bag T) (hr.mono (by decide)) rfl T.m__law_bag T.k__law_bag T.b__law_bag .nil pass0 (pa_cons (pe_call (ok_law_cell T) (hr.mono (by decide)) rfl T.m__law_cell T.k__law_cell T.b__law_cell .nil pass0 (pa_cons (pv 0) (pa_cons (pv 1) pa_nil))) pa_nil)))
      (pss_cons (ps_set (i := 3) sc_law.nd rfl (.inl rfl) (pe_ix (ix_listV (K := K)) (pe_lst (pa_cons (pe_call (ok_law_text T) (hr.mono (by decide)) rfl T.m__law_text T.k__law_text T.b__law_text .nil pass0 (pa_cons (pv 2) pa_nil)) (pa_cons (pe_call (ok_law_any T) (hr.mono (by decide)) rfl T.m__law_any T.k__law_any T.b__law_any .nil pass0 (pa_cons (pv 2) pa_nil)) pa_nil))) (pe_callTy call_intV (by rfl) T.z_int (by decide +kernel) (pa_cons (pe_cmpR op_eq (pe_call (ok_law_take T) (hr.mono (by decide)) rfl T.m__law_take T.k__law_take T.b__law_take .nil pass0 (pa_cons (pv 2) (pa_cons pe_int pa_nil))) pe_int (nomark _)) pa_nil)) (fun _ _ => rfl)))
      (pss_cons (ps_set (i := 4) sc_law.nd rfl (.inl rfl) (pe_ifExp (pt_val (pe_callB (call_isiV (K := K)) (by rfl) T.z_isinstance (by decide +kernel) (pa_cons (pv 3) (pa_cons (pe_bltn (v := .ty "str") (by rfl) T.z_str (by decide +kernel) rfl) pa_nil)))) (pe_call (ok_law_parted T) (hr.mono (by decide)) rfl T.m__law_parted T.k__law_parted T.b__law_parted .nil pass0 (pa_cons (pv 3) (pa_cons pe_str pa_nil))) pe_non))
      (pss_one (ps_for PassesOwn.never rfl (pi_range1 (by rfl) T.z_range (pa_cons pe_int pa_nil)) (pg_name (i := 5) sc_law.nd rfl (.inl rfl)) (pss_cons (ps_if (PW.pt (pw_or (pt_cmpR op_ne (pe_callB (call_repr (K := K) gua hr.units) (by rfl) T.z_repr (by decide +kernel) (pa_cons (pe_call (ok_words_in T) (hr.mono (by decide)) rfl T.m_words_in T.k_words_in T.b_words_in .nil pass0 (pa_cons (pv 3) pa_nil)) pa_nil)) (pe_callB (call_repr (K := K) gua hr.units) (by rfl) T.z_repr (by decide +kernel) (pa_cons (pe_call (ok_law_words_due T) (hr.mono (by decide)) rfl T.m__law_words_due T.k__law_words_due T.b__law_words_due .nil pass0 (pa_cons (pv 3) pa_nil)) pa_nil)) (nomark _)) (pw_or1 (pt_cmpR op_ne (pe_callB (call_repr (K := K) gua hr.units) (by rfl) T.z_repr (by decide +kernel) (pa_cons (pe_call (ok_rows_in T) (hr.mono (by decide)) rfl T.m_rows_in T.k_rows_in T.b_rows_in .nil pass0 (pa_cons (pv 3) pa_nil)) pa_nil)) (pe_callB (call_repr (K := K) gua hr.units) (by rfl) T.z_repr (by decide +kernel) (pa_cons (pv 4) pa_nil)) (nomark _))))) (pss_one (ps_ret pe_bl)) pss_nil)
      (pss_one (ps_for PassesOwn.never rfl (pi_list (pe_lst (pa_cons (pe_call (ok_words_in T) (hr.mono (by decide)) rfl T.m_words_in T.k_words_in T.b_words_in .nil pass0 (pa_cons (pv 3) pa_nil)) (pa_cons (pe_call (ok_rows_in T) (hr.mono (by decide)) rfl T.m_rows_in T.k_rows_in T.b_rows_in .nil pass0 (pa_cons (pv 3) pa_nil)) pa_nil)))) (pg_name (i := 6) sc_law.nd rfl (.inl rfl)) (pss_one (ps_if (pt_cmpR op_isNotV (pv 6) pe_non (nomark _)) (pss_one (ps_expr (pe_bm PySem.F.plainAttrs_list PySem.F.slot_list_append PySem.F.type_list_append mt_append (pv 6) (pa_cons pe_str pa_nil)))) pss_nil)))))))))))
      (pss_cons (ps_set (i := 7) sc_law.nd rfl (.inl rfl) (pe_call (ok_rows_in T) (hr.mono (by decide)) rfl T.m_rows_in T.k_rows_in T.b_rows_in .nil pass0 (pa_cons (pe_op op_mulS pe_str pe_int) pa_nil)))
      (pss_one (ps_ret (pe_and (pe_callB (call_isiV (K := K)) (by rfl) T.z_isinstance (by decide +kernel) (pa_cons (pv 7) (pa_cons (pe_bltn (v := .ty "list") (by rfl) T.z_list (by decide +kernel) rfl) pa_nil))) (pe_and (pe_cmpR op_eq (pe_callB (call_lenV (K := K)) (by rfl) T.z_len (by decide +kernel) (pa_cons (pv 7) pa_nil)) pe_int (nomark _)) (pe_one (pe_cmpR (op_eqD hr.units) (pe_call (ok_words_in T) (hr.mono (by decide)) rfl T.m_words_in T.k_words_in T.b_words_in .nil pass0 (pa_cons (pe_bm PySem.F.plainAttrs_str PySem.F.slot_str_join PySem.F.type_str_join (mt_joinV (K := K)) pe_str (pa_cons (pe_op op_rep (pe_lst (pa_cons pe_str pa_nil)) pe_int) pa_nil)) pa_nil)) (pe_op op_rep (pe_lst (pa_cons pe_str pa_nil)) pe_int) (nomark _))))))))), ?_⟩
    walk_at "go"
    refine for_it (n := _) walk_range (fun i σ H' => ∃ v1 v2 v3 v4 v5 v6 v7, σ = [some (.ref a), v1, v2, v3, v4, v5, v6, v7] ∧ SqL K H' a (ns.map V.int))
      ⟨none, none, none, none, none, none, none, rfl, hS⟩ (fun _ _ _ _ _ => trivial) ?_ ?_
    · rintro i x σ H1 H2 hi ⟨v1, v2, v3, v4, v5, v6, v7, rfl, hS1⟩ ⟨rfl, rfl⟩
      have hi' : i ≤ 63 := by
        revert hi
        split <;> split <;> omega
      walk_at "go"
      refine ⟨a, ns, i, by simp, hS1, hi', fun z => ?_⟩
      walk_at "go"
      refine ⟨z, rfl, fun p H3 hp s3 B3 => ?_⟩
      walk_at "go"
      refine ⟨p, 0, rfl, by decide, B3, fun zt H4 hz B4 M4 => ?_⟩
      walk_at "go"
      refine ⟨p, 300, rfl, by decide, by simpa using B4, fun va H5 ho hne B5 M5 => ?_⟩
      walk_at "go"
      rename_i l hl
      have nl := B5.ne hl
      refine ⟨p, 6, _, rfl, by decide, by decide, by omega, B5.new hl, fun z6 H6 z0 z1 B6 M6 => ?_⟩
      walk_at "go"
      have hk : 0 ≤ (if decide (V.int z6 = V.int 0) = true then (1 : Int) else 0) ∧ (if decide (V.int z6 = V.int 0) = true then (1 : Int) else 0) < 2 := by split <;> decide
      obtain ⟨v, hv, ix⟩ := ix_draw (K := K) (M6 l _ nl upd_same) hk.1 hk.2 rfl
      refine ix _ ?_
      have M36 : Mv p H5 H6 := (Mv.new hl).trans M6
      have s6 : Same H2 H6 := fun b o e => (M4.trans (M5.trans M36)) b o (ne_of_none e hp) (s3 b o e)
      obtain ⟨o, hvo⟩ : ∃ o, IsT H6 v o := by
        simp only [List.mem_cons, List.not_mem_nil, or_false] at hv
        rcases hv with rfl | rfl
        · exact ⟨some zt, rfl, hz⟩
        · obtain ⟨o, ho⟩ := ho
          exact ⟨o, ho.mv hne M36⟩
      walk_at "st"
      refine g_cutIf (fun vr H7 => Same H6 H7 ∧ OptL H6 H7 (o.bind rowsM) vr) ?_ ?_
      · intro Q2 k
        walk_at "go"
        cases o with
        | none =>
          obtain ⟨ty, h1, h2⟩ := NoS.isi (K := K) hvo
          refine g_isi (.ty "str") h1 h2 ?_
          walk_at "go"
          exact k _ _ ⟨Same.refl _, rfl⟩
        | some zz =>
          obtain ⟨rfl, hzz⟩ := hvo
          refine g_isi (.ty "str") (isi_str (H := H6) zz).1 (isi_str (H := H6) zz).2 ?_
          walk_at "go"
          refine ⟨zz, _, 10, rfl, by decide +kernel, hzz, by decide, fun pr hpr => ?_⟩
          exact k _ _ ⟨fun b o e => upd_keep hpr e, ⟨pr, rfl, hpr, upd_same⟩⟩
      rintro vr H7 ⟨s7, hr⟩
      have hv7 := hvo.same s7
      walk_at "go"
      refine for_it (n := _) walk_range (fun _ σ H' => ∃ w5 w6, σ = [some (.ref a), some (.int (0 + (i : Int))), some (.ref p), some v, some vr, w5, w6, v7] ∧ Same H7 H')
        ⟨v5, v6, rfl, Same.refl _⟩ (fun _ _ _ _ _ => trivial) ?_ ?_
      · rintro t x σ H8 H8' ht ⟨w5, w6, rfl, s8⟩ ⟨rfl, rfl⟩
        have f1 := fine_words hvo
        have f2 := fine_rows hvo
        walk_at "go"
        refine ⟨v, o, rfl, hv7.same s8, fun u1 H9 s9 hu1 => ?_⟩
        walk_at "go"
        refine g_repr (K := K) hu1.dp f1.1 f1.2.1 f1.2.2.1 f1.2.2.2 ?_
        walk_at "go"
        refine ⟨v, o, rfl, (hv7.same s8).same s9, fun u2 H10 s10 hu2 => ?_⟩
        rw [due_words] at hu2
        walk_at "go"
        refine g_repr (K := K) hu2.dp f1.1 f1.2.1 f1.2.2.1 f1.2.2.2 ?_
        walk_at "go"
        refine ⟨v, o, rfl, ((hv7.same s8).same s9).same s10, fun u3 H11 s11 hu3 => ?_⟩
        walk_at "go"
        refine g_repr (K := K) hu3.dp f2.1 f2.2.1 f2.2.2.1 f2.2.2.2 ?_
        walk_at "go"
        have s811 : Same H7 H11 := s8.trans (s9.trans (s10.trans s11))
        refine g_repr (K := K) (hr.same s811).dp f2.1 f2.2.1 f2.2.2.1 f2.2.2.2 ?_
        walk_at "go"
        refine ⟨v, o, rfl, hv7.same s811, fun u4 H12 s12 hu4 => ?_⟩
        walk_at "go"
        refine ⟨v, o, rfl, (hv7.same s811).same s12, fun u5 H13 s13 hu5 => ?_⟩
        walk_at "go"
        rename_i L hL
        have told : ∀ u ∈ [u4, u5], Told H11 (upd H13 L (.lst [u4, u5])) L 3000 u := by
          have one : ∀ (u : V) (oo : Option (List Str)) (Ha Hb : Hp), Fine oo → Same H11 Ha → Same Hb H13 → OptL Ha Hb oo u → (∀ ys, oo = some ys → ys.length ≤ 3000) → Told H11 (upd H13 L (.lst [u4, u5])) L 3000 u := by
            intro u oo Ha Hb _ sa sb hu hn
            cases oo with
            | none => exact Or.inl hu
            | some ys =>
              obtain ⟨pu, e, h0, h1⟩ := hu
              have at13 := sb _ _ h1
              exact Or.inr ⟨pu, _, e, sa.free h0, ne_of_none at13 hL, upd_keep hL at13, by rw [List.length_map]; exact hn ys rfl⟩
          have lens : ∀ (m : Nat) (zz : Str), Sg zz 2000 → (Txt.split zz ⟨#[m]⟩).length ≤ 3000 := fun m zz h => Nat.le_trans (PyProof.Rows.split_le zz ⟨#[m]⟩) (by have := h.1; omega)
          intro u hu
          simp only [List.mem_cons, List.not_mem_nil, or_false] at hu
          rcases hu with rfl | rfl
          · refine one _ _ H11 H12 f1 (Same.refl _) s13 hu4 ?_
            intro ys e
            cases o with
            | none => cases e
            | some zz =>
              have e2 : wordsM zz = some ys := e
              unfold wordsM at e2
              split at e2
              · cases e2
              · cases e2
                exact lens _ _ hvo.2
          · refine one _ _ H12 H13 f2 s12 (Same.refl _) hu5 ?_
            intro ys e
            cases o with
            | none => cases e
            | some zz =>
              cases e
              exact lens _ _ hvo.2
        have s1113 : Same H11 (upd H13 L (.lst [u4, u5])) := fun b o e => upd_keep hL (s13 _ _ (s12 _ _ e))
        refine for_it (n := 2) (walk_list (K := K) (a := L) (xs := [u4, u5])) (fun j σ H' => ∃ w5 w6, σ = [some (.ref a), some (.int (0 + (i : Int))), some (.ref p), some v, some vr, w5, w6, v7] ∧ Same H11 H' ∧ H' L = some (.lst [u4, u5]) ∧ ∀ u ∈ [u4, u5], Told H11 H' L (3000 + j) u)
          ⟨_, _, rfl, s1113, upd_same, told⟩ (fun _ _ _ _ h => by obtain ⟨_, _, _, _, h, _⟩ := h; exact Or.inl (Or.inl h)) ?_ ?_
        · rintro j x σ H14 H14' hj ⟨y5, y6, rfl, s14, eL, tl⟩ ⟨rfl, hx⟩
          walk_at "go"
          rcases tl x (List.mem_of_getElem? hx) with rfl | ⟨pu, xs, rfl, h0, hpL, e1, ln⟩
          · walk_at "go"
            exact ⟨_, _, rfl, s14, eL, fun u hu => by
              rcases tl u hu with h | ⟨pu, xs, e, h1, h2, h3, h4⟩
              · exact Or.inl h
              · exact Or.inr ⟨pu, xs, e, h1, h2, h3, by omega⟩⟩
          · refine g_diff (by intro z; cases z) ?_
            walk_at "go"
            refine ⟨Or.inl ⟨rfl, _, Or.inl (Or.inl e1)⟩, ?_⟩
            walk_at "go"
            refine s_append e1 (Nat.lt_of_le_of_lt (by omega : xs.length ≤ 3002) (by decide)) ?_
            refine ⟨_, _, rfl, fun b o e => ?_, ?_, fun u hu => ?_⟩
            · rw [upd_ne (ne_of_none e h0)]
              exact s14 b o e
            · rw [upd_ne hpL.symm]
              exact eL
            · rcases tl u hu with h | ⟨pw, ys, e, h1, h2, h3, h4⟩
              · exact Or.inl h
              · by_cases same : pw = pu
                · subst same
                  rw [e1] at h3
                  cases h3
                  exact Or.inr ⟨pw, _, e, h1, h2, upd_same, by rw [List.length_append]; show xs.length + 1 ≤ _; omega⟩
                · exact Or.inr ⟨pw, ys, e, h1, h2, by rw [upd_ne same]; exact h3, by omega⟩
        · rintro σ H14 ⟨y5, y6, rfl, s14, eL, tl⟩
          walk_at "go"
          exact ⟨_, _, rfl, s811.trans s14⟩
      · rintro σ H8 ⟨w5, w6, rfl, s8⟩
        walk_at "go"
        exact ⟨_, _, _, _, _, _, _, rfl, sq_same (s6.trans (s7.trans s8)) hS1⟩
    · rintro σ H1 ⟨v1, v2, v3, v4, v5, v6, v7, rfl, hS1⟩
      walk_at "go"
      rw [show Str.ofString "\n" = ⟨#[10]⟩ from by decide +kernel]
      refine g_mulS ⟨by decide, fun _ _ => by decide, fun _ _ => by decide⟩ ?_
      walk_at "go"
      have sgm : Sg (Txt.mul ⟨#[10]⟩ 800) 2000 := by
        refine ⟨by rw [TL.len_tl, tl_mul, List.length_replicate]; decide, fun c hc => ?_⟩
        rw [tl_mul] at hc
        rw [(List.mem_replicate.mp hc).2]
        decide
      refine ⟨_, some (Txt.mul ⟨#[10]⟩ 800), rfl, ⟨rfl, sgm⟩, fun u H2 s2 hu => ?_⟩
      obtain ⟨pm, rfl, h0, em⟩ := hu
      walk_at "go"
      refine g_isi (.ty "list") (.base (.lst em)) (kit_ty (r := true) (by decide +kernel)) ?_
      walk_at "go"
      rw [List.length_map, many_split]
      refine g_yes rfl ?_
      walk_at "go"
      refine ⟨rfl, ?_⟩
      walk_at "go"
      rename_i l1 hl1
      refine ⟨l1, 400, _, rfl, rfl, upd_same, by decide, by decide, by decide, fun l2 hl2 => ?_⟩
      have rep : (List.replicate (400 : Int).toNat [V.str (Str.ofString "a")]).flatten = (List.replicate 400 (Str.ofString "a")).map V.str := by
        rw [show (400 : Int).toNat = 400 from rfl, List.map_replicate]
        simp
      rw [rep]
      walk_at "go"
      refine g_join (K := K) (Or.inl (Or.inl upd_same)) (by decide +kernel) ?_
      walk_at "go"
      have sgj : Sg (Txt.join (Str.ofString " ") (List.replicate 400 (Str.ofString "a"))) 2000 := by
        refine (Sg.join (n := 1) (k := 400) (Sg.of (by decide +kernel)) (by rw [List.length_replicate]; decide) fun z hz => ?_).mono (by decide)
        rw [(List.mem_replicate.mp hz).2]
        exact Sg.of (by decide +kernel)
      refine ⟨_, some _, rfl, ⟨rfl, sgj⟩, fun u H3 s3 hu => ?_⟩
      have wj : wordsM (Txt.join (Str.ofString " ") (List.replicate 400 (Str.ofString "a"))) = some (List.replicate 400 (Str.ofString "a")) := by
        have sj : Txt.split (Txt.join (Str.ofString " ") (List.replicate 400 (Str.ofString "a"))) ⟨#[32]⟩ = List.replicate 400 (Str.ofString "a") := by
          rw [show Str.ofString " " = ⟨#[32]⟩ from by decide +kernel]
          refine TL.split_join (s := 32) (S := []) rfl (by decide +kernel) (by simp) fun z hz => ?_
          rw [(List.mem_replicate.mp hz).2]
          decide +kernel
        unfold wordsM
        rw [sj, if_neg ?_]
        intro h
        obtain ⟨y, hy, h2⟩ := List.any_eq_true.mp h
        rw [(List.mem_replicate.mp hy).2] at h2
        exact absurd h2 (by decide +kernel)
      rw [Option.bind_some, wj] at hu
      walk_at "go"
      rename_i l3 hl3
      refine ⟨l3, 400, _, rfl, rfl, upd_same, by decide, by decide, by decide, fun l4 hl4 => ?_⟩
      rw [rep]
      have keep := fun b o (e : H3 b = some o) => upd_keep (u := .lst ((List.replicate 400 (Str.ofString "a")).map V.str)) hl4 (upd_keep (u := .lst [V.str (Str.ofString "a")]) hl3 e)
      have sh : SeqAt.shaped (dOpt (some (List.replicate 400 (Str.ofString "a")))) = true := by decide +kernel
      refine ⟨dOpt (some (List.replicate 400 (Str.ofString "a"))), dOpt (some (List.replicate 400 (Str.ofString "a"))), (hu.same keep).dp, .lst (Or.inl (Or.inl upd_same)) (dp_strs K _ _), sh, sh, ?_⟩
      rw [SeqAt.eqv_refl _ (SeqAt.canLay_of_shaped sh)]
      exact q _
end
theorem all_mk {l : PySem.W.OpenLaw} {w : World} {K : PySem.W.Frag} {h : Heap} {mg : Str → Option Value} {fa f0 f1 f2 f3 f4 f5 f6 f7 f8 f9 f10 : Addr} (X : K.In h) (G : h.Ns mainGlobals mg) (hfa : mg "law" = some (.ref fa))
    {od0 an0 : Option Addr} {sl0 : Array (Option Value)} {oc0 kV0 dc0 pm0 cd0 ct0 : Value}
    (a0 : PySem.W.nsIn K mainGlobals "_law_cell" = some (some (.ref f0))) (l0 : K.lookup f0 = some ⟨oc0, od0, .func (PySem.W.fnOf "_law_cell" "_law_cell" (defArgs s_law_cell) (defBody s_law_cell) (defScope s_law_cell) .none kV0 dc0 pm0 an0 cd0 ct0), sl0⟩) (c0 : PySem.W.codeIn K cd0 "_law_cell" = true) (k0 : PySem.W.keepIn K (.ref f0) = true)
    {od1 an1 : Option Addr} {sl1 : Array (Option Value)} {oc1 kV1 dc1 pm1 cd1 ct1 : Value}
    (a1 : PySem.W.nsIn K mainGlobals "_law_bag" = some (some (.ref f1))) (l1 : K.lookup f1 = some ⟨oc1, od1, .func (PySem.W.fnOf "_law_bag" "_law_bag" (defArgs s_law_bag) (defBody s_law_bag) (defScope s_law_bag) .none kV1 dc1 pm1 an1 cd1 ct1), sl1⟩) (c1 : PySem.W.codeIn K cd1 "_law_bag" = true) (k1 : PySem.W.keepIn K (.ref f1) = true)
    {od2 an2 : Option Addr} {sl2 : Array (Option Value)} {oc2 kV2 dc2 pm2 cd2 ct2 : Value}
    (a2 : PySem.W.nsIn K mainGlobals "_law_take" = some (some (.ref f2))) (l2 : K.lookup f2 = some ⟨oc2, od2, .func (PySem.W.fnOf "_law_take" "_law_take" (defArgs s_law_take) (defBody s_law_take) (defScope s_law_take) .none kV2 dc2 pm2 an2 cd2 ct2), sl2⟩) (c2 : PySem.W.codeIn K cd2 "_law_take" = true) (k2 : PySem.W.keepIn K (.ref f2) = true)
    {od3 an3 : Option Addr} {sl3 : Array (Option Value)} {oc3 kV3 dc3 pm3 cd3 ct3 : Value}
    (a3 : PySem.W.nsIn K mainGlobals "_law_any" = some (some (.ref f3))) (l3 : K.lookup f3 = some ⟨oc3, od3, .func (PySem.W.fnOf "_law_any" "_law_any" (defArgs s_law_any) (defBody s_law_any) (defScope s_law_any) .none kV3 dc3 pm3 an3 cd3 ct3), sl3⟩) (c3 : PySem.W.codeIn K cd3 "_law_any" = true) (k3 : PySem.W.keepIn K (.ref f3) = true)
    {od4 an4 : Option Addr} {sl4 : Array (Option Value)} {oc4 kV4 dc4 pm4 cd4 ct4 : Value}
    (a4 : PySem.W.nsIn K mainGlobals "_law_parted" = some (some (.ref f4))) (l4 : K.lookup f4 = some ⟨oc4, od4, .func (PySem.W.fnOf "_law_parted" "_law_parted" (defArgs s_law_parted) (defBody s_law_parted) (defScope s_law_parted) .none kV4 dc4 pm4 an4 cd4 ct4), sl4⟩) (c4 : PySem.W.codeIn K cd4 "_law_parted" = true) (k4 : PySem.W.keepIn K (.ref f4) = true)
    {od5 an5 : Option Addr} {sl5 : Array (Option Value)} {oc5 kV5 dc5 pm5 cd5 ct5 : Value}
    (a5 : PySem.W.nsIn K mainGlobals "words_in" = some (some (.ref f5))) (l5 : K.lookup f5 = some ⟨oc5, od5, .func (PySem.W.fnOf "words_in" "words_in" (defArgs s_words_in) (defBody s_words_in) (defScope s_words_in) .none kV5 dc5 pm5 an5 cd5 ct5), sl5⟩) (c5 : PySem.W.codeIn K cd5 "words_in" = true) (k5 : PySem.W.keepIn K (.ref f5) = true)
    {od6 an6 : Option Addr} {sl6 : Array (Option Value)} {oc6 kV6 dc6 pm6 cd6 ct6 : Value}
    (a6 : PySem.W.nsIn K mainGlobals "rows_in" = some (some (.ref f6))) (l6 : K.lookup f6 = some ⟨oc6, od6, .func (PySem.W.fnOf "rows_in" "rows_in" (defArgs s_rows_in) (defBody s_rows_in) (defScope s_rows_in) .none kV6 dc6 pm6 an6 cd6 ct6), sl6⟩) (c6 : PySem.W.codeIn K cd6 "rows_in" = true) (k6 : PySem.W.keepIn K (.ref f6) = true)
    {od7 an7 : Option Addr} {sl7 : Array (Option Value)} {oc7 kV7 dc7 pm7 cd7 ct7 : Value}
    (a7 : PySem.W.nsIn K mainGlobals "_law_words_due" = some (some (.ref f7))) (l7 : K.lookup f7 = some ⟨oc7, od7, .func (PySem.W.fnOf "_law_words_due" "_law_words_due" (defArgs s_law_words_due) (defBody s_law_words_due) (defScope s_law_words_due) .none kV7 dc7 pm7 an7 cd7 ct7), sl7⟩) (c7 : PySem.W.codeIn K cd7 "_law_words_due" = true) (k7 : PySem.W.keepIn K (.ref f7) = true)
    {od8 an8 : Option Addr} {sl8 : Array (Option Value)} {oc8 kV8 dc8 pm8 cd8 ct8 : Value}
    (a8 : PySem.W.nsIn K mainGlobals "_law_word" = some (some (.ref f8))) (l8 : K.lookup f8 = some ⟨oc8, od8, .func (PySem.W.fnOf "_law_word" "_law_word" (defArgs s_law_word) (defBody s_law_word) (defScope s_law_word) .none kV8 dc8 pm8 an8 cd8 ct8), sl8⟩) (c8 : PySem.W.codeIn K cd8 "_law_word" = true) (k8 : PySem.W.keepIn K (.ref f8) = true)
    {od9 an9 : Option Addr} {sl9 : Array (Option Value)} {oc9 kV9 dc9 pm9 cd9 ct9 : Value}
    (a9 : PySem.W.nsIn K mainGlobals "_law_text" = some (some (.ref f9))) (l9 : K.lookup f9 = some ⟨oc9, od9, .func (PySem.W.fnOf "_law_text" "_law_text" (defArgs s_law_text) (defBody s_law_text) (defScope s_law_text) .none kV9 dc9 pm9 an9 cd9 ct9), sl9⟩) (c9 : PySem.W.codeIn K cd9 "_law_text" = true) (k9 : PySem.W.keepIn K (.ref f9) = true)
    {od10 an10 : Option Addr} {sl10 : Array (Option Value)} {oc10 kV10 dc10 pm10 cd10 ct10 : Value}
    (a10 : PySem.W.nsIn K mainGlobals "law" = some (some (.ref f10))) (l10 : K.lookup f10 = some ⟨oc10, od10, .func (PySem.W.fnOf "law" "law" (defArgs s_law) (defBody s_law) (defScope s_law) .none kV10 dc10 pm10 an10 cd10 ct10), sl10⟩) (c10 : PySem.W.codeIn K cd10 "law" = true) (k10 : PySem.W.keepIn K (.ref f10) = true)
    (z_any : PySem.W.nsIn K mainGlobals "any" = some none)
    (z_int : PySem.W.nsIn K mainGlobals "int" = some none)
    (z_isinstance : PySem.W.nsIn K mainGlobals "isinstance" = some none)
    (z_len : PySem.W.nsIn K mainGlobals "len" = some none)
    (z_list : PySem.W.nsIn K mainGlobals "list" = some none)
    (z_max : PySem.W.nsIn K mainGlobals "max" = some none)
    (z_min : PySem.W.nsIn K mainGlobals "min" = some none)
    (z_range : PySem.W.nsIn K mainGlobals "range" = some none)
    (z_repr : PySem.W.nsIn K mainGlobals "repr" = some none)
    (z_str : PySem.W.nsIn K mainGlobals "str" = some none)
    (x_nb : PySem.W.nsIn K cStatics sharingNotToldKey = some none)
    : ∃ fd : FuncData, (∀ (s : Shared) (v : Value), BindsTo s fd ⟨[v], []⟩ [("_law_script", v)]) ∧ ∀ base : Heap, K.In base → base.Ns mainGlobals mg → FnG l.prog w K mg base 4 fa fd ["_law_script"] (sp_law K) := by
  have e := hfa.symm.trans (PySem.W.mg_of X G a10)
  cases e
  have F0 := fun_mk (st := s_law_cell) l0 c0 k0
  have b0 := F0.binds (ps := ["_law_script", "_law_k"]) fun _ _ _ _ _ _ us hl => match us, hl with | [_, _], _ => rfl
  have F1 := fun_mk (st := s_law_bag) l1 c1 k1
  have b1 := F1.binds (ps := ["_law_cell_here"]) fun _ _ _ _ _ _ us hl => match us, hl with | [_], _ => rfl
  have F2 := fun_mk (st := s_law_take) l2 c2 k2
  have b2 := F2.binds (ps := ["_law_bag_here", "_law_many"]) fun _ _ _ _ _ _ us hl => match us, hl with | [_, _], _ => rfl
  have F3 := fun_mk (st := s_law_any) l3 c3 k3
  have b3 := F3.binds (ps := ["_law_bag_here"]) fun _ _ _ _ _ _ us hl => match us, hl with | [_], _ => rfl
  have F4 := fun_mk (st := s_law_parted) l4 c4 k4
  have b4 := F4.binds (ps := ["_law_text_here", "_law_mark"]) fun _ _ _ _ _ _ us hl => match us, hl with | [_, _], _ => rfl
  have F5 := fun_mk (st := s_words_in) l5 c5 k5
  have b5 := F5.binds (ps := ["thing"]) fun _ _ _ _ _ _ us hl => match us, hl with | [_], _ => rfl
  have F6 := fun_mk (st := s_rows_in) l6 c6 k6
  have b6 := F6.binds (ps := ["thing"]) fun _ _ _ _ _ _ us hl => match us, hl with | [_], _ => rfl
  have F7 := fun_mk (st := s_law_words_due) l7 c7 k7
  have b7 := F7.binds (ps := ["_law_text_here"]) fun _ _ _ _ _ _ us hl => match us, hl with | [_], _ => rfl
  have F8 := fun_mk (st := s_law_word) l8 c8 k8
  have b8 := F8.binds (ps := ["_law_bag_here"]) fun _ _ _ _ _ _ us hl => match us, hl with | [_], _ => rfl
  have F9 := fun_mk (st := s_law_text) l9 c9 k9
  have b9 := F9.binds (ps := ["_law_bag_here"]) fun _ _ _ _ _ _ us hl => match us, hl with | [_], _ => rfl
  have F10 := fun_mk (st := s_law) l10 c10 k10
  have b10 := F10.binds (ps := ["_law_script"]) fun _ _ _ _ _ _ us hl => match us, hl with | [_], _ => rfl
  let f : Nat → Addr := fun i => [f0, f1, f2, f3, f4, f5, f6, f7, f8, f9, fa].getD i 0
  let d : Nat → FuncData := fun i => match i with | 0 => PySem.W.fnOf "_law_cell" "_law_cell" (defArgs s_law_cell) (defBody s_law_cell) (defScope s_law_cell) .none kV0 dc0 pm0 an0 cd0 ct0 | 1 => PySem.W.fnOf "_law_bag" "_law_bag" (defArgs s_law_bag) (defBody s_law_bag) (defScope s_law_bag) .none kV1 dc1 pm1 an1 cd1 ct1 | 2 => PySem.W.fnOf "_law_take" "_law_take" (defArgs s_law_take) (defBody s_law_take) (defScope s_law_take) .none kV2 dc2 pm2 an2 cd2 ct2 | 3 => PySem.W.fnOf "_law_any" "_law_any" (defArgs s_law_any) (defBody s_law_any) (defScope s_law_any) .none kV3 dc3 pm3 an3 cd3 ct3 | 4 => PySem.W.fnOf "_law_parted" "_law_parted" (defArgs s_law_parted) (defBody s_law_parted) (defScope s_law_parted) .none kV4 dc4 pm4 an4 cd4 ct4 | 5 => PySem.W.fnOf "words_in" "words_in" (defArgs s_words_in) (defBody s_words_in) (defScope s_words_in) .none kV5 dc5 pm5 an5 cd5 ct5 | 6 => PySem.W.fnOf "rows_in" "rows_in" (defArgs s_rows_in) (defBody s_rows_in) (defScope s_rows_in) .none kV6 dc6 pm6 an6 cd6 ct6 | 7 => PySem.W.fnOf "_law_words_due" "_law_words_due" (defArgs s_law_words_due) (defBody s_law_words_due) (defScope s_law_words_due) .none kV7 dc7 pm7 an7 cd7 ct7 | 8 => PySem.W.fnOf "_law_word" "_law_word" (defArgs s_law_word) (defBody s_law_word) (defScope s_law_word) .none kV8 dc8 pm8 an8 cd8 ct8 | 9 => PySem.W.fnOf "_law_text" "_law_text" (defArgs s_law_text) (defBody s_law_text) (defScope s_law_text) .none kV9 dc9 pm9 an9 cd9 ct9 | 10 => PySem.W.fnOf "law" "law" (defArgs s_law) (defBody s_law) (defScope s_law) .none kV10 dc10 pm10 an10 cd10 ct10  | _ => PySem.W.fnOf "law" "law" (defArgs s_law) (defBody s_law) (defScope s_law) .none kV10 dc10 pm10 an10 cd10 ct10
  have T : Txt l.prog K mg f d := {
    F_law_cell := F0, m__law_cell := PySem.W.mg_of X G a0, k__law_cell := k0, b__law_cell := b0,
    F_law_bag := F1, m__law_bag := PySem.W.mg_of X G a1, k__law_bag := k1, b__law_bag := b1,
    F_law_take := F2, m__law_take := PySem.W.mg_of X G a2, k__law_take := k2, b__law_take := b2,
    F_law_any := F3, m__law_any := PySem.W.mg_of X G a3, k__law_any := k3, b__law_any := b3,
    F_law_parted := F4, m__law_parted := PySem.W.mg_of X G a4, k__law_parted := k4, b__law_parted := b4,
    F_words_in := F5, m_words_in := PySem.W.mg_of X G a5, k_words_in := k5, b_words_in := b5,
    F_rows_in := F6, m_rows_in := PySem.W.mg_of X G a6, k_rows_in := k6, b_rows_in := b6,
    F_law_words_due := F7, m__law_words_due := PySem.W.mg_of X G a7, k__law_words_due := k7, b__law_words_due := b7,
    F_law_word := F8, m__law_word := PySem.W.mg_of X G a8, k__law_word := k8, b__law_word := b8,
    F_law_text := F9, m__law_text := PySem.W.mg_of X G a9, k__law_text := k9, b__law_text := b9,
    F_law := F10, m_law := PySem.W.mg_of X G a10, k_law := k10, b_law := b10,
    z_any := PySem.W.mg_none_of X G z_any,
    z_int := PySem.W.mg_none_of X G z_int,
    z_isinstance := PySem.W.mg_none_of X G z_isinstance,
    z_len := PySem.W.mg_none_of X G z_len,
    z_list := PySem.W.mg_none_of X G z_list,
    z_max := PySem.W.mg_none_of X G z_max,
    z_min := PySem.W.mg_none_of X G z_min,
    z_range := PySem.W.mg_none_of X G z_range,
    z_repr := PySem.W.mg_none_of X G z_repr,
    z_str := PySem.W.mg_none_of X G z_str,
    nb := x_nb }
  exact ⟨PySem.W.fnOf "law" "law" (defArgs s_law) (defBody s_law) (defScope s_law) .none kV10 dc10 pm10 an10 cd10 ct10, fun s v => .of_eq rfl, fun base _ _ => ok_law T⟩
theorem walk {l : PySem.W.OpenLaw} {q : Program} {loose : List Str} {XP : (Str → Option Value) → Heap → Prop} {YP : World → Heap → Prop} {d : DefRec} {K : Params → PySem.W.Frag} (hn : l.most = some 63) (hdf : d.params.defaults = [])
    (hY : ∀ (w : World) (h : Heap), YP w h → (K w.params).In h)
    (F : ∀ (w : World) (mg : Str → Option Value) (fa : Addr) (h : Heap), (K w.params).In h → h.Ns mainGlobals mg → mg d.name = some (.ref fa) →
      ∃ fd : FuncData, (∀ (s : Shared) (u : Value), BindsTo s fd ⟨[u], []⟩ [("_law_script", u)]) ∧ ∀ base : Heap, (K w.params).In base → base.Ns mainGlobals mg → FnG l.prog w (K w.params) mg base 4 fa fd ["_law_script"] (sp_law (K w.params))) :
    PySem.W.WalkO q loose XP YP l.row.toRowW d [] (fun f vs => PySem.call f vs) :=
  Jg.walkG (n := 63) (k := 4) (x := "_law_script") (sp := sp_law) hn (by decide) hdf ⟨rfl, by decide, by decide⟩ hY F fun K H a ns hl _ hS => ⟨a, ns, rfl, hS, hl, fun _ => rfl⟩
end K04
open PySem PySem.W PyProof.Rows
set_option maxRecDepth 100000 in
set_option maxHeartbeats 0 in
theorem PySem.Challenge.cw_termshelf_k04_words_and_rows_parted_holds : PySem.Challenge.rw_termshelf_k04_words_and_rows_parted.Holds := by
  w_on; o_law; k_head; (case hw => w_witness2)
  k_fill
  refine K04.walk (l := PySem.Challenge.rw_termshelf_k04_words_and_rows_parted) rfl rfl (fun w h Y => PySem.W.kIn_of Y) ?F
  case F =>
    intro w mg fa h KX G hmg
    refine' K04.all_mk KX G hmg ?qa0 ?ql0 ?qc0 ?qk0 ?qa1 ?ql1 ?qc1 ?qk1 ?qa2 ?ql2 ?qc2 ?qk2 ?qa3 ?ql3 ?qc3 ?qk3 ?qa4 ?ql4 ?qc4 ?qk4 ?qa5 ?ql5 ?qc5 ?qk5 ?qa6 ?ql6 ?qc6 ?qk6 ?qa7 ?ql7 ?qc7 ?qk7 ?qa8 ?ql8 ?qc8 ?qk8 ?qa9 ?ql9 ?qc9 ?qk9 ?qa10 ?ql10 ?qc10 ?qk10 ?qz_any ?qz_int ?qz_isinstance ?qz_len ?qz_list ?qz_max ?qz_min ?qz_range ?qz_repr ?qz_str ?qx_nb 
    (case qa0 => k_is); (case ql0 => k_is); (case qc0 => k_is); (case qk0 => k_is)
    (case qa1 => k_is); (case ql1 => k_is); (case qc1 => k_is); (case qk1 => k_is)
    (case qa2 => k_is); (case ql2 => k_is); (case qc2 => k_is); (case qk2 => k_is)
    (case qa3 => k_is); (case ql3 => k_is); (case qc3 => k_is); (case qk3 => k_is)
    (case qa4 => k_is); (case ql4 => k_is); (case qc4 => k_is); (case qk4 => k_is)
    (case qa5 => k_is); (case ql5 => k_is); (case qc5 => k_is); (case qk5 => k_is)
    (case qa6 => k_is); (case ql6 => k_is); (case qc6 => k_is); (case qk6 => k_is)
    (case qa7 => k_is); (case ql7 => k_is); (case qc7 => k_is); (case qk7 => k_is)
    (case qa8 => k_is); (case ql8 => k_is); (case qc8 => k_is); (case qk8 => k_is)
    (case qa9 => k_is); (case ql9 => k_is); (case qc9 => k_is); (case qk9 => k_is)
    (case qa10 => k_is); (case ql10 => k_is); (case qc10 => k_is); (case qk10 => k_is)
    (case qz_any => k_is)
    (case qz_int => k_is)
    (case qz_isinstance => k_is)
    (case qz_len => k_is)
    (case qz_list => k_is)
    (case qz_max => k_is)
    (case qz_min => k_is)
    (case qz_range => k_is)
    (case qz_repr => k_is)
    (case qz_str => k_is)
    (case qx_nb => k_is)
