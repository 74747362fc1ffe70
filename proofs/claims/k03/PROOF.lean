import PyProof.Rows.All
import Wide.All
import OpenK.AllK
import Wide.FinOn
import KE.KStateDown
import Lean
import HandS.ForMost
import HandS.ExcInit
import HandS.ExcCtx
import KE.KExcIs
import HandS.Words
import HandS.Defaults
import HandS.Head0
import HandS.Head1
import HandS.Head2
import HandS.HeadHook1
import HandS.HeadHook2
import HandS.IsInst
import HandS.Wide
import PyProof.ReprRoads
import PyProof.StrReplace2
import PyProof.ToksMono
import HandS.Walk
import HandS.Replace
import PyProof.Rows.StrSplitAre
import PyProof.StrLawsChain
import PyProof.StrBlock2
import PyProof.Rows.StrSplitJoin
import PyProof.StrLawsReplace
import PyProof.Rows.StrItems
import HandS.Exc
import HandS.ExcSuper
import KE.KExcSuper
import KE.KSuper
import KE.KExcMake
import PyProof.ExcBaseAll.LookupError
import HandS.ExcField
import HandS.Steps
import KE.KExcStr
import PyProof.ReprNest
import PyProof.ReprReads
import PyProof.Rows.IntBool
import PyProof.Rows.RegStrFacts
import HandS.TupLe
import HandS.HotCalls
import HandS.Zip
import KE.KTryMore
import HandS.WordsExc
import HandS.ExcIs
import PySem.Challenge.RW_termshelf_k03_refusals_apart
set_option Elab.async false
set_option linter.all false
set_option maxRecDepth 100000
set_option maxHeartbeats 2000000
namespace JgHd
open PySem PySem.W PySem.Calls PyProof.Rows PySem.Spec L2
abbrev FnV : Type := Option (Str × Str × Arguments × FuncBody × Scope × Addr × List Str × Addr)
/-- the function at an address, as far as its text goes -/
def fnV (K : Frag) (a : Addr) : FnV := match K.lookup a with
  | some ⟨_, _, .func fd, _⟩ => some (fd.name, fd.qualname, fd.params, fd.body, fd.scope, fd.globals, fd.closure.map (·.1), fd.builtins)
  | _ => none
def textV (x qual : Str) (params : Arguments) (body : List Stmt) (scope : Scope) (cl : List Str) : FnV := some (x, qual, params, .stmts body, scope, mainGlobals, cl, builtinsNs)
abbrev AlJ : Type := Bool × List FnV
def obsJ (fx : Frag → Bool) (ad : List (Frag → Addr)) (K : Frag) : AlJ := (fx K, ad.map fun a => fnV K (a K))
/-- a number is looked up once -/
def frA {α : Type} (n : Addr) (k : Addr → α) : α := match n with
  | 0 => k 0
  | m + 1 => k (m + 1)
/-- so many addresses from a on -/
def upto (a : Addr) : Nat → List Addr
  | 0 => []
  | n + 1 => frA a fun a => a :: upto (a + 1) n
/-- all addresses below hi, those from lo on ahead -/
def asJ (lo hi : Nat) : List Addr := mainGlobals :: cStatics :: (upto lo (hi - lo) ++ upto 0 lo)
def hookJ (lo hi : Nat) (fx : Frag → Bool) (ad : List (Frag → Addr)) (vs : List FnV) : Hook where
  α := AlJ
  obs := fun s => obsJ fx ad (He.frG s.heap.get? (asJ lo hi))
  val := fun _ => (true, vs)
  says := fun _ h => ∃ K : Frag, K.In h ∧ obsJ fx ad K = (true, vs)
  of := fun _ _ e => ⟨_, He.frG_in, e⟩
  keeps := fun _ _ _ ⟨K, hK, c⟩ k => ⟨K, Frag.In.keeps hK k, c⟩
/-- the same, off the tree -/
def obsT (lo hi : Nat) (fx : Frag → Bool) (ad : List (Frag → Addr)) (s : SharedT) : AlJ := obsJ fx ad (He.frG (HandSHeadRun.getT s) (asJ lo hi))
def isB {α : Type} [DecidableEq α] (a b : α) : Bool := decide (a = b)
/-- a global's address; a class's method's -/
abbrev gA (x : Str) : Frag → Addr := fun K => He.ga K x
abbrev mA (x m : Str) : Frag → Addr := fun K => He.ma K (He.ga K x) m
def gloB (K : Frag) (x : Str) : Bool := isB (nsIn K mainGlobals x) (some (some (.ref (He.ga K x))))
def freeB (K : Frag) (x : Str) : Bool := isB (nsIn K mainGlobals x) (some none)
def constB (K : Frag) (x : Str) (v : V) : Bool := match nsIn K mainGlobals x with
  | some (some u) => He.relB v u
  | _ => false
def funB (K : Frag) (a : Addr) (qual : Str) (dvs : List V) (kws : List (Str × V)) : Bool := keepIn K (.ref a) && match K.lookup a with
  | some ⟨_, _, .func fd, _⟩ => codeIn K fd.code qual && (He.dflB K fd.defaults dvs && He.kwdB K fd.kwdefaults kws)
  | _ => false
def excB (K : Frag) (C : Addr) (newId : String) (bmB : List Value) : Bool := match K.lookup C with
  | some ⟨.type "type", _, .cls cd, sl⟩ => (match cd.mro, sl.toList with
    | .ref C' :: bm, [_, _, _, _, some (.builtin n), _] => C' == C && (n == newId && (!cd.hasDel && (cd.hasDict && excTail bmB bm)))
    | _, _ => false)
  | _ => false
/-- what stands above a class -/
def above (K : Frag) (C : Addr) : List Value := match clsIn K C with
  | some cd => cd.mro.tail
  | none => []
/-- what any class of exceptions of the text tells -/
def xaB (K : Frag) (C : Addr) : Bool :=
  isB (findIn K (.ref C) "__getattribute__") (some (some (.builtin "BaseException.__getattribute__"))) && (isB (findIn K (.ref C) "__getattr__") (some none) &&
    isB (findIn K (.ref C) "__class__") (some (some (.builtin "object.__class__"))))
def takB (K : Frag) : Bool := isB (specialIn K (.builtin "object.__class__") "__get__") (some (some (.builtin "getset_descriptor.__get__"))) && isB (takesIn K (.builtin "object.__class__")) (some true)
/-- its own __init__ -/
def xfnB (K : Frag) (C I : Addr) (qual file : Str) : Bool := match K.lookup I with
  | some ⟨_, _, .func fd, _⟩ => (match fd.code, fd.closure with
    | .ref cda, [(_, cc)] => codeIn K (.ref cda) qual && (He.dflB K fd.defaults [] && ((match K.lookup cda with
        | some ⟨_, _, .fields vs, _⟩ => (match (vs[2]? : Option Value) with
          | some (.str fl _) => file == fl
          | _ => false)
        | _ => false) && (match K.lookup cc with
        | some ⟨_, _, .cell (some (.ref C')), _⟩ => C' == C
        | _ => false)))
    | _, _ => false)
  | _ => false
/-- a class with an own __init__, all that is asked of it -/
def ctB (K : Frag) (x : Str) (newId i B : String) (bmB : List Value) (field qual file : Str) : Bool :=
  gloB K x && (excB K (He.ga K x) newId bmB && (xaB K (He.ga K x) && (isB (findIn K (.ref (He.ga K x)) "__setattr__") (some (some (.builtin "object.__setattr__"))) && (keepIn K (.ref (He.ga K x)) &&
    (isB (ks_superIn K (He.ga K x) (He.ga K x) "__init__") (some (some (.builtin i))) && (isB (findIn K (.ref (He.ga K x)) "__init__") (some (some (.ref (He.ma K (He.ga K x) "__init__")))) &&
    (isB (typeIn K (.ref (He.ma K (He.ga K x) "__init__"))) (some (.type "function")) && (isB (findIn K (.ref (He.ga K x)) field) (some none) && xfnB K (He.ga K x) (He.ma K (He.ga K x) "__init__") qual file))))))))
/-- a class without one -/
def plB (K : Frag) (x : Str) (newId i : String) (bmB : List Value) : Bool :=
  gloB K x && (excB K (He.ga K x) newId bmB && (xaB K (He.ga K x) && (keepIn K (.ref (He.ga K x)) && isB (findIn K (.ref (He.ga K x)) "__init__") (some (some (.builtin i))))))
/-- the rows of who is under whom -/
def rowK (K : Frag) (xs : List Str) : List (Addr × List Value) := xs.map fun x => (He.ga K x, above K (He.ga K x))
def frVs : List Value → (List Value → Bool) → Bool
  | [], k => k []
  | v :: vs, k => match v with
    | .ref a => frA a fun a => frVs vs fun r => k (.ref a :: r)
    | .type t => frVs vs fun r => k (.type t :: r)
    | v => frVs vs fun r => k (v :: r)
def frRows (K : Frag) : List Str → (List (Addr × List Value) → Bool) → Bool
  | [], k => k []
  | x :: xs, k => frA (He.ga K x) fun C => frVs (above K C) fun bm => frRows K xs fun r => k ((C, bm) :: r)
end JgHd
namespace JgX
open PySem PySem.W PySem.Calls PyProof.Rows PySem.Spec L2
def kinTab (fam : Nat → Nat) (rows : List (Addr × List Value)) : Bool :=
  (rows.zipIdx).all fun r => (rows.zipIdx).all fun s => (Value.ref r.1.1 :: r.1.2).contains (.ref s.1.1) == (decide (r.2 = s.2) || decide (fam r.2 = s.2))
def tyTab (T : String) (under : Nat → Bool) (rows : List (Addr × List Value)) : Bool := (rows.zipIdx).all fun r => (Value.ref r.1.1 :: r.1.2).contains (.type T) == under r.2
end JgX
namespace K03
open PySem PySem.Spec L2
def top (i : Nat) : Stmt := PySem.Challenge.pw_termshelf_k03_refusals_apart.main.body.getD i (.Pass ⟨0, 0, 0, 0⟩)
abbrev s_law_cell : Stmt := top 39
abbrev s_law_bag : Stmt := top 40
abbrev s_law_take : Stmt := top 41
abbrev s_law_marks_first : Stmt := top 44
abbrev s_law_marks_last : Stmt := top 45
abbrev s_law_families : Stmt := top 48
abbrev s_law_family_of : Stmt := top 49
abbrev s_law_made_first : Stmt := top 46
abbrev s_law_made_last : Stmt := top 47
abbrev s_law_any : Stmt := top 43
abbrev s_law_very : Stmt := top 42
abbrev s_law_fields_right : Stmt := top 50
abbrev s_law_taken : Stmt := top 51
abbrev s_law_by_name_right : Stmt := top 52
abbrev s_law_right : Stmt := top 53
abbrev s_law : Stmt := top 54
abbrev xs_NoName : Stmt := inClass (top 4) 0
abbrev xs_NoWords : Stmt := inClass (top 5) 0
abbrev xs_NoSigns : Stmt := inClass (top 6) 0
abbrev xs_NoSign : Stmt := inClass (top 7) 0
abbrev xs_NoWord : Stmt := inClass (top 8) 0
abbrev xs_Beyond : Stmt := inClass (top 9) 0
abbrev xs_Unended : Stmt := inClass (top 10) 0
abbrev xs_NoTerm : Stmt := inClass (top 11) 0
abbrev xs_NoTerms : Stmt := inClass (top 12) 0
abbrev xs_NoLetter : Stmt := inClass (top 13) 0
abbrev xs_NoPairs : Stmt := inClass (top 14) 0
abbrev xs_NoPutting : Stmt := inClass (top 15) 0
abbrev xs_NoWay : Stmt := inClass (top 16) 0
abbrev xs_NoNumber : Stmt := inClass (top 17) 0
abbrev xs_NoTruth : Stmt := inClass (top 18) 0
abbrev xs_NoNote : Stmt := inClass (top 19) 0
abbrev xs_NoList : Stmt := inClass (top 20) 0
abbrev xs_NoAsk : Stmt := inClass (top 21) 0
abbrev xs_NoRule : Stmt := inClass (top 22) 0
abbrev xs_NoRules : Stmt := inClass (top 23) 0
abbrev xs_NoRow : Stmt := inClass (top 24) 0
abbrev xs_NoShelf : Stmt := inClass (top 25) 0
abbrev xs_NoDeed : Stmt := inClass (top 26) 0
abbrev xs_NoText : Stmt := inClass (top 27) 0
abbrev xs_NoLine : Stmt := inClass (top 28) 0
abbrev xs_Unlike : Stmt := inClass (top 29) 0
abbrev xs_Twice : Stmt := inClass (top 30) 0
abbrev xs_TooMany : Stmt := inClass (top 31) 0
abbrev xs_TooGreat : Stmt := inClass (top 32) 0
abbrev xs_NotThere : Stmt := inClass (top 33) 0
abbrev xs_NoSpot : Stmt := inClass (top 34) 0
abbrev xs_NoMore : Stmt := inClass (top 35) 0
abbrev xs_Changed : Stmt := inClass (top 36) 0
abbrev xs_Endless : Stmt := inClass (top 37) 0
def fam (i : Nat) : Nat := if i < 29 then 34 else if i < 31 then 35 else if i < 34 then 36 else i
/-- how the families of the class at place i are told -/
def namesX : List Str := ([Str.ofString "NoName", Str.ofString "NoWords", Str.ofString "NoSigns", Str.ofString "NoSign", Str.ofString "NoWord", Str.ofString "Beyond", Str.ofString "Unended", Str.ofString "NoTerm", Str.ofString "NoTerms", Str.ofString "NoLetter", Str.ofString "NoPairs", Str.ofString "NoPutting", Str.ofString "NoWay", Str.ofString "NoNumber", Str.ofString "NoTruth", Str.ofString "NoNote", Str.ofString "NoList", Str.ofString "NoAsk", Str.ofString "NoRule"] ++ [Str.ofString "NoRules", Str.ofString "NoRow", Str.ofString "NoShelf", Str.ofString "NoDeed", Str.ofString "NoText", Str.ofString "NoLine", Str.ofString "Unlike", Str.ofString "Twice", Str.ofString "TooMany", Str.ofString "TooGreat", Str.ofString "NotThere", Str.ofString "NoSpot", Str.ofString "NoMore", Str.ofString "Changed", Str.ofString "Endless", Str.ofString "TermError", Str.ofString "Absent", Str.ofString "Ended"])
abbrev PR : Program := (PySem.Challenge.rw_termshelf_k03_refusals_apart).prog
abbrev FILE : Str := PR.main.file
def fx0 (K : PySem.W.Frag) : Bool := ([JgHd.gloB K "_law_cell", JgHd.funB K (He.ga K "_law_cell") "_law_cell" [] [], JgHd.gloB K "_law_bag", JgHd.funB K (He.ga K "_law_bag") "_law_bag" [] [], JgHd.gloB K "_law_take", JgHd.funB K (He.ga K "_law_take") "_law_take" [] [], JgHd.gloB K "_law_marks_first", JgHd.funB K (He.ga K "_law_marks_first") "_law_marks_first" [] [], JgHd.gloB K "_law_marks_last", JgHd.funB K (He.ga K "_law_marks_last") "_law_marks_last" [] [], JgHd.gloB K "_law_families", JgHd.funB K (He.ga K "_law_families") "_law_families" [] [], JgHd.gloB K "_law_family_of", JgHd.funB K (He.ga K "_law_family_of") "_law_family_of" [] [], JgHd.gloB K "_law_made_first", JgHd.funB K (He.ga K "_law_made_first") "_law_made_first" [] []] : List Bool).all fun b => b
def fx1 (K : PySem.W.Frag) : Bool := ([JgHd.gloB K "_law_made_last", JgHd.funB K (He.ga K "_law_made_last") "_law_made_last" [] [], JgHd.gloB K "_law_any", JgHd.funB K (He.ga K "_law_any") "_law_any" [] [], JgHd.gloB K "_law_very", JgHd.funB K (He.ga K "_law_very") "_law_very" [] [], JgHd.gloB K "_law_fields_right", JgHd.funB K (He.ga K "_law_fields_right") "_law_fields_right" [] [], JgHd.gloB K "_law_taken", JgHd.funB K (He.ga K "_law_taken") "_law_taken" [] [], JgHd.gloB K "_law_by_name_right", JgHd.funB K (He.ga K "_law_by_name_right") "_law_by_name_right" [] [], JgHd.gloB K "_law_right", JgHd.funB K (He.ga K "_law_right") "_law_right" [] [], JgHd.gloB K "law", JgHd.funB K (He.ga K "law") "law" [] []] : List Bool).all fun b => b
def fx2 (K : PySem.W.Frag) : Bool := ([JgHd.freeB K "KeyError", JgHd.freeB K "LookupError", JgHd.freeB K "ValueError", JgHd.freeB K "enumerate", JgHd.freeB K "isinstance", JgHd.freeB K "len", JgHd.freeB K "list", JgHd.freeB K "max", JgHd.freeB K "min", JgHd.freeB K "range", JgHd.freeB K "repr", JgHd.isB (PySem.W.nsIn K cStatics sharingNotToldKey) (some none), JgHd.takB K, JgHd.ctB K "NoName" "ValueError.__new__" "ValueError.__init__" "ValueError" [.type "ValueError", .type "Exception", .type "BaseException", .type "object"] "found" "NoName.__init__" FILE, JgHd.ctB K "NoWords" "ValueError.__new__" "ValueError.__init__" "ValueError" [.type "ValueError", .type "Exception", .type "BaseException", .type "object"] "found" "NoWords.__init__" FILE, JgHd.ctB K "NoSigns" "ValueError.__new__" "ValueError.__init__" "ValueError" [.type "ValueError", .type "Exception", .type "BaseException", .type "object"] "found" "NoSigns.__init__" FILE] : List Bool).all fun b => b
def fx3 (K : PySem.W.Frag) : Bool := ([JgHd.ctB K "NoSign" "ValueError.__new__" "ValueError.__init__" "ValueError" [.type "ValueError", .type "Exception", .type "BaseException", .type "object"] "at" "NoSign.__init__" FILE, JgHd.ctB K "NoWord" "ValueError.__new__" "ValueError.__init__" "ValueError" [.type "ValueError", .type "Exception", .type "BaseException", .type "object"] "found" "NoWord.__init__" FILE, JgHd.ctB K "Beyond" "ValueError.__new__" "ValueError.__init__" "ValueError" [.type "ValueError", .type "Exception", .type "BaseException", .type "object"] "at" "Beyond.__init__" FILE, JgHd.ctB K "Unended" "ValueError.__new__" "ValueError.__init__" "ValueError" [.type "ValueError", .type "Exception", .type "BaseException", .type "object"] "many" "Unended.__init__" FILE, JgHd.ctB K "NoTerm" "ValueError.__new__" "ValueError.__init__" "ValueError" [.type "ValueError", .type "Exception", .type "BaseException", .type "object"] "found" "NoTerm.__init__" FILE, JgHd.ctB K "NoTerms" "ValueError.__new__" "ValueError.__init__" "ValueError" [.type "ValueError", .type "Exception", .type "BaseException", .type "object"] "found" "NoTerms.__init__" FILE, JgHd.ctB K "NoLetter" "ValueError.__new__" "ValueError.__init__" "ValueError" [.type "ValueError", .type "Exception", .type "BaseException", .type "object"] "found" "NoLetter.__init__" FILE, JgHd.ctB K "NoPairs" "ValueError.__new__" "ValueError.__init__" "ValueError" [.type "ValueError", .type "Exception", .type "BaseException", .type "object"] "found" "NoPairs.__init__" FILE, JgHd.ctB K "NoPutting" "ValueError.__new__" "ValueError.__init__" "ValueError" [.type "ValueError", .type "Exception", .type "BaseException", .type "object"] "found" "NoPutting.__init__" FILE, JgHd.ctB K "NoWay" "ValueError.__new__" "ValueError.__init__" "ValueError" [.type "ValueError", .type "Exception", .type "BaseException", .type "object"] "found" "NoWay.__init__" FILE, JgHd.ctB K "NoNumber" "ValueError.__new__" "ValueError.__init__" "ValueError" [.type "ValueError", .type "Exception", .type "BaseException", .type "object"] "found" "NoNumber.__init__" FILE, JgHd.ctB K "NoTruth" "ValueError.__new__" "ValueError.__init__" "ValueError" [.type "ValueError", .type "Exception", .type "BaseException", .type "object"] "found" "NoTruth.__init__" FILE, JgHd.ctB K "NoNote" "ValueError.__new__" "ValueError.__init__" "ValueError" [.type "ValueError", .type "Exception", .type "BaseException", .type "object"] "found" "NoNote.__init__" FILE, JgHd.ctB K "NoList" "ValueError.__new__" "ValueError.__init__" "ValueError" [.type "ValueError", .type "Exception", .type "BaseException", .type "object"] "found" "NoList.__init__" FILE, JgHd.ctB K "NoAsk" "ValueError.__new__" "ValueError.__init__" "ValueError" [.type "ValueError", .type "Exception", .type "BaseException", .type "object"] "found" "NoAsk.__init__" FILE, JgHd.ctB K "NoRule" "ValueError.__new__" "ValueError.__init__" "ValueError" [.type "ValueError", .type "Exception", .type "BaseException", .type "object"] "found" "NoRule.__init__" FILE] : List Bool).all fun b => b
def fx4 (K : PySem.W.Frag) : Bool := ([JgHd.ctB K "NoRules" "ValueError.__new__" "ValueError.__init__" "ValueError" [.type "ValueError", .type "Exception", .type "BaseException", .type "object"] "found" "NoRules.__init__" FILE, JgHd.ctB K "NoRow" "ValueError.__new__" "ValueError.__init__" "ValueError" [.type "ValueError", .type "Exception", .type "BaseException", .type "object"] "found" "NoRow.__init__" FILE, JgHd.ctB K "NoShelf" "ValueError.__new__" "ValueError.__init__" "ValueError" [.type "ValueError", .type "Exception", .type "BaseException", .type "object"] "found" "NoShelf.__init__" FILE, JgHd.ctB K "NoDeed" "ValueError.__new__" "ValueError.__init__" "ValueError" [.type "ValueError", .type "Exception", .type "BaseException", .type "object"] "at" "NoDeed.__init__" FILE, JgHd.ctB K "NoText" "ValueError.__new__" "ValueError.__init__" "ValueError" [.type "ValueError", .type "Exception", .type "BaseException", .type "object"] "row" "NoText.__init__" FILE, JgHd.ctB K "NoLine" "ValueError.__new__" "ValueError.__init__" "ValueError" [.type "ValueError", .type "Exception", .type "BaseException", .type "object"] "found" "NoLine.__init__" FILE, JgHd.ctB K "Unlike" "ValueError.__new__" "ValueError.__init__" "ValueError" [.type "ValueError", .type "Exception", .type "BaseException", .type "object"] "found" "Unlike.__init__" FILE, JgHd.ctB K "Twice" "ValueError.__new__" "ValueError.__init__" "ValueError" [.type "ValueError", .type "Exception", .type "BaseException", .type "object"] "found" "Twice.__init__" FILE, JgHd.ctB K "TooMany" "ValueError.__new__" "ValueError.__init__" "ValueError" [.type "ValueError", .type "Exception", .type "BaseException", .type "object"] "many" "TooMany.__init__" FILE, JgHd.ctB K "TooGreat" "ValueError.__new__" "ValueError.__init__" "ValueError" [.type "ValueError", .type "Exception", .type "BaseException", .type "object"] "many" "TooGreat.__init__" FILE, JgHd.ctB K "NotThere" "LookupError.__new__" "KeyError.__init__" "KeyError" [.type "KeyError", .type "LookupError", .type "Exception", .type "BaseException", .type "object"] "found" "NotThere.__init__" FILE, JgHd.ctB K "NoSpot" "LookupError.__new__" "KeyError.__init__" "KeyError" [.type "KeyError", .type "LookupError", .type "Exception", .type "BaseException", .type "object"] "found" "NoSpot.__init__" FILE, JgHd.ctB K "NoMore" "LookupError.__new__" "LookupError.__init__" "LookupError" [.type "LookupError", .type "Exception", .type "BaseException", .type "object"] "found" "NoMore.__init__" FILE, JgHd.ctB K "Changed" "LookupError.__new__" "LookupError.__init__" "LookupError" [.type "LookupError", .type "Exception", .type "BaseException", .type "object"] "many" "Changed.__init__" FILE, JgHd.ctB K "Endless" "LookupError.__new__" "LookupError.__init__" "LookupError" [.type "LookupError", .type "Exception", .type "BaseException", .type "object"] "many" "Endless.__init__" FILE, JgHd.plB K "TermError" "ValueError.__new__" "ValueError.__init__" [.type "ValueError", .type "Exception", .type "BaseException", .type "object"]] : List Bool).all fun b => b
def fx5 (K : PySem.W.Frag) : Bool := ([JgHd.plB K "Absent" "LookupError.__new__" "KeyError.__init__" [.type "KeyError", .type "LookupError", .type "Exception", .type "BaseException", .type "object"], JgHd.plB K "Ended" "LookupError.__new__" "LookupError.__init__" [.type "LookupError", .type "Exception", .type "BaseException", .type "object"], JgHd.isB (PySem.W.nsIn K cStatics "thirdparty.any") (some none), JgHd.freeB K "super", namesX.all fun x => JgHd.isB (PySem.W.typeIn K (.ref (He.ga K x))) (some (.type "type")) && (match PySem.W.clsIn K (He.ga K x) with
  | some cd => cd.mro.head? == some (.ref (He.ga K x))
  | none => false), JgHd.frRows K namesX fun rows => JgX.kinTab fam rows && (JgX.tyTab "ValueError" (fun i => decide (fam i = 34)) rows && (JgX.tyTab "KeyError" (fun i => decide (fam i = 35)) rows && JgX.tyTab "LookupError" (fun i => decide (fam i = 35) || decide (fam i = 36)) rows))] : List Bool).all fun b => b
abbrev LO : Nat := 560
abbrev HI : Nat := 880
def fx (K : PySem.W.Frag) : Bool := ([fx0 K, fx1 K, fx2 K, fx3 K, fx4 K, fx5 K] : List Bool).all fun b => b
def ad0 : List (PySem.W.Frag → Addr) := [JgHd.gA "_law_cell", JgHd.gA "_law_bag", JgHd.gA "_law_take", JgHd.gA "_law_marks_first", JgHd.gA "_law_marks_last", JgHd.gA "_law_families", JgHd.gA "_law_family_of", JgHd.gA "_law_made_first", JgHd.gA "_law_made_last", JgHd.gA "_law_any", JgHd.gA "_law_very", JgHd.gA "_law_fields_right", JgHd.gA "_law_taken", JgHd.gA "_law_by_name_right", JgHd.gA "_law_right", JgHd.gA "law"]
def ad1 : List (PySem.W.Frag → Addr) := [JgHd.mA "NoName" "__init__", JgHd.mA "NoWords" "__init__", JgHd.mA "NoSigns" "__init__", JgHd.mA "NoSign" "__init__", JgHd.mA "NoWord" "__init__", JgHd.mA "Beyond" "__init__", JgHd.mA "Unended" "__init__", JgHd.mA "NoTerm" "__init__", JgHd.mA "NoTerms" "__init__", JgHd.mA "NoLetter" "__init__", JgHd.mA "NoPairs" "__init__", JgHd.mA "NoPutting" "__init__", JgHd.mA "NoWay" "__init__", JgHd.mA "NoNumber" "__init__", JgHd.mA "NoTruth" "__init__", JgHd.mA "NoNote" "__init__"]
def ad2 : List (PySem.W.Frag → Addr) := [JgHd.mA "NoList" "__init__", JgHd.mA "NoAsk" "__init__", JgHd.mA "NoRule" "__init__", JgHd.mA "NoRules" "__init__", JgHd.mA "NoRow" "__init__", JgHd.mA "NoShelf" "__init__", JgHd.mA "NoDeed" "__init__", JgHd.mA "NoText" "__init__", JgHd.mA "NoLine" "__init__", JgHd.mA "Unlike" "__init__", JgHd.mA "Twice" "__init__", JgHd.mA "TooMany" "__init__", JgHd.mA "TooGreat" "__init__", JgHd.mA "NotThere" "__init__", JgHd.mA "NoSpot" "__init__", JgHd.mA "NoMore" "__init__"]
def ad3 : List (PySem.W.Frag → Addr) := [JgHd.mA "Changed" "__init__", JgHd.mA "Endless" "__init__"]
def ad : List (PySem.W.Frag → Addr) := ad0 ++ ad1 ++ ad2 ++ ad3
def vsx0 : List (JgHd.FnV) := [JgHd.textV "_law_cell" "_law_cell" (defArgs s_law_cell) (defBody s_law_cell) (defScope s_law_cell) [], JgHd.textV "_law_bag" "_law_bag" (defArgs s_law_bag) (defBody s_law_bag) (defScope s_law_bag) [], JgHd.textV "_law_take" "_law_take" (defArgs s_law_take) (defBody s_law_take) (defScope s_law_take) [], JgHd.textV "_law_marks_first" "_law_marks_first" (defArgs s_law_marks_first) (defBody s_law_marks_first) (defScope s_law_marks_first) [], JgHd.textV "_law_marks_last" "_law_marks_last" (defArgs s_law_marks_last) (defBody s_law_marks_last) (defScope s_law_marks_last) [], JgHd.textV "_law_families" "_law_families" (defArgs s_law_families) (defBody s_law_families) (defScope s_law_families) [], JgHd.textV "_law_family_of" "_law_family_of" (defArgs s_law_family_of) (defBody s_law_family_of) (defScope s_law_family_of) [], JgHd.textV "_law_made_first" "_law_made_first" (defArgs s_law_made_first) (defBody s_law_made_first) (defScope s_law_made_first) [], JgHd.textV "_law_made_last" "_law_made_last" (defArgs s_law_made_last) (defBody s_law_made_last) (defScope s_law_made_last) [], JgHd.textV "_law_any" "_law_any" (defArgs s_law_any) (defBody s_law_any) (defScope s_law_any) [], JgHd.textV "_law_very" "_law_very" (defArgs s_law_very) (defBody s_law_very) (defScope s_law_very) [], JgHd.textV "_law_fields_right" "_law_fields_right" (defArgs s_law_fields_right) (defBody s_law_fields_right) (defScope s_law_fields_right) [], JgHd.textV "_law_taken" "_law_taken" (defArgs s_law_taken) (defBody s_law_taken) (defScope s_law_taken) [], JgHd.textV "_law_by_name_right" "_law_by_name_right" (defArgs s_law_by_name_right) (defBody s_law_by_name_right) (defScope s_law_by_name_right) [], JgHd.textV "_law_right" "_law_right" (defArgs s_law_right) (defBody s_law_right) (defScope s_law_right) [], JgHd.textV "law" "law" (defArgs s_law) (defBody s_law) (defScope s_law) []]
def vsx1 : List (JgHd.FnV) := [JgHd.textV "__init__" "NoName.__init__" (defArgs xs_NoName) (defBody xs_NoName) (defScope xs_NoName) ["__class__"], JgHd.textV "__init__" "NoWords.__init__" (defArgs xs_NoWords) (defBody xs_NoWords) (defScope xs_NoWords) ["__class__"], JgHd.textV "__init__" "NoSigns.__init__" (defArgs xs_NoSigns) (defBody xs_NoSigns) (defScope xs_NoSigns) ["__class__"], JgHd.textV "__init__" "NoSign.__init__" (defArgs xs_NoSign) (defBody xs_NoSign) (defScope xs_NoSign) ["__class__"], JgHd.textV "__init__" "NoWord.__init__" (defArgs xs_NoWord) (defBody xs_NoWord) (defScope xs_NoWord) ["__class__"], JgHd.textV "__init__" "Beyond.__init__" (defArgs xs_Beyond) (defBody xs_Beyond) (defScope xs_Beyond) ["__class__"], JgHd.textV "__init__" "Unended.__init__" (defArgs xs_Unended) (defBody xs_Unended) (defScope xs_Unended) ["__class__"], JgHd.textV "__init__" "NoTerm.__init__" (defArgs xs_NoTerm) (defBody xs_NoTerm) (defScope xs_NoTerm) ["__class__"], JgHd.textV "__init__" "NoTerms.__init__" (defArgs xs_NoTerms) (defBody xs_NoTerms) (defScope xs_NoTerms) ["__class__"], JgHd.textV "__init__" "NoLetter.__init__" (defArgs xs_NoLetter) (defBody xs_NoLetter) (defScope xs_NoLetter) ["__class__"], JgHd.textV "__init__" "NoPairs.__init__" (defArgs xs_NoPairs) (defBody xs_NoPairs) (defScope xs_NoPairs) ["__class__"], JgHd.textV "__init__" "NoPutting.__init__" (defArgs xs_NoPutting) (defBody xs_NoPutting) (defScope xs_NoPutting) ["__class__"], JgHd.textV "__init__" "NoWay.__init__" (defArgs xs_NoWay) (defBody xs_NoWay) (defScope xs_NoWay) ["__class__"], JgHd.textV "__init__" "NoNumber.__init__" (defArgs xs_NoNumber) (defBody xs_NoNumber) (defScope xs_NoNumber) ["__class__"], JgHd.textV "__init__" "NoTruth.__init__" (defArgs xs_NoTruth) (defBody xs_NoTruth) (defScope xs_NoTruth) ["__class__"], JgHd.textV "__init__" "NoNote.__init__" (defArgs xs_NoNote) (defBody xs_NoNote) (defScope xs_NoNote) ["__class__"]]
def vsx2 : List (JgHd.FnV) := [JgHd.textV "__init__" "NoList.__init__" (defArgs xs_NoList) (defBody xs_NoList) (defScope xs_NoList) ["__class__"], JgHd.textV "__init__" "NoAsk.__init__" (defArgs xs_NoAsk) (defBody xs_NoAsk) (defScope xs_NoAsk) ["__class__"], JgHd.textV "__init__" "NoRule.__init__" (defArgs xs_NoRule) (defBody xs_NoRule) (defScope xs_NoRule) ["__class__"], JgHd.textV "__init__" "NoRules.__init__" (defArgs xs_NoRules) (defBody xs_NoRules) (defScope xs_NoRules) ["__class__"], JgHd.textV "__init__" "NoRow.__init__" (defArgs xs_NoRow) (defBody xs_NoRow) (defScope xs_NoRow) ["__class__"], JgHd.textV "__init__" "NoShelf.__init__" (defArgs xs_NoShelf) (defBody xs_NoShelf) (defScope xs_NoShelf) ["__class__"], JgHd.textV "__init__" "NoDeed.__init__" (defArgs xs_NoDeed) (defBody xs_NoDeed) (defScope xs_NoDeed) ["__class__"], JgHd.textV "__init__" "NoText.__init__" (defArgs xs_NoText) (defBody xs_NoText) (defScope xs_NoText) ["__class__"], JgHd.textV "__init__" "NoLine.__init__" (defArgs xs_NoLine) (defBody xs_NoLine) (defScope xs_NoLine) ["__class__"], JgHd.textV "__init__" "Unlike.__init__" (defArgs xs_Unlike) (defBody xs_Unlike) (defScope xs_Unlike) ["__class__"], JgHd.textV "__init__" "Twice.__init__" (defArgs xs_Twice) (defBody xs_Twice) (defScope xs_Twice) ["__class__"], JgHd.textV "__init__" "TooMany.__init__" (defArgs xs_TooMany) (defBody xs_TooMany) (defScope xs_TooMany) ["__class__"], JgHd.textV "__init__" "TooGreat.__init__" (defArgs xs_TooGreat) (defBody xs_TooGreat) (defScope xs_TooGreat) ["__class__"], JgHd.textV "__init__" "NotThere.__init__" (defArgs xs_NotThere) (defBody xs_NotThere) (defScope xs_NotThere) ["__class__"], JgHd.textV "__init__" "NoSpot.__init__" (defArgs xs_NoSpot) (defBody xs_NoSpot) (defScope xs_NoSpot) ["__class__"], JgHd.textV "__init__" "NoMore.__init__" (defArgs xs_NoMore) (defBody xs_NoMore) (defScope xs_NoMore) ["__class__"]]
def vsx3 : List (JgHd.FnV) := [JgHd.textV "__init__" "Changed.__init__" (defArgs xs_Changed) (defBody xs_Changed) (defScope xs_Changed) ["__class__"], JgHd.textV "__init__" "Endless.__init__" (defArgs xs_Endless) (defBody xs_Endless) (defScope xs_Endless) ["__class__"]]
def vsx : List (JgHd.FnV) := vsx0 ++ vsx1 ++ vsx2 ++ vsx3
def names0 : List (Str) := [Str.ofString "__name__", Str.ofString "TermError", Str.ofString "Absent", Str.ofString "Ended", Str.ofString "NoName", Str.ofString "NoWords", Str.ofString "NoSigns", Str.ofString "NoSign", Str.ofString "NoWord", Str.ofString "Beyond", Str.ofString "Unended", Str.ofString "NoTerm", Str.ofString "NoTerms", Str.ofString "NoLetter", Str.ofString "NoPairs", Str.ofString "NoPutting"]
def names1 : List (Str) := [Str.ofString "NoWay", Str.ofString "NoNumber", Str.ofString "NoTruth", Str.ofString "NoNote", Str.ofString "NoList", Str.ofString "NoAsk", Str.ofString "NoRule", Str.ofString "NoRules", Str.ofString "NoRow", Str.ofString "NoShelf", Str.ofString "NoDeed", Str.ofString "NoText", Str.ofString "NoLine", Str.ofString "Unlike", Str.ofString "Twice", Str.ofString "TooMany"]
def names2 : List (Str) := [Str.ofString "TooGreat", Str.ofString "NotThere", Str.ofString "NoSpot", Str.ofString "NoMore", Str.ofString "Changed", Str.ofString "Endless", Str.ofString "_law_cell", Str.ofString "_law_bag", Str.ofString "_law_take", Str.ofString "_law_very", Str.ofString "_law_any", Str.ofString "_law_marks_first", Str.ofString "_law_marks_last", Str.ofString "_law_made_first", Str.ofString "_law_made_last", Str.ofString "_law_families"]
def names3 : List (Str) := [Str.ofString "_law_family_of", Str.ofString "_law_fields_right", Str.ofString "_law_taken", Str.ofString "_law_by_name_right", Str.ofString "_law_right"]
def names : List (Str) := names0 ++ names1 ++ names2 ++ names3
abbrev RR : PySem.W.OpenRow := PySem.W.OpenLaw.row PySem.Challenge.rw_termshelf_k03_refusals_apart
abbrev hk : PySem.W.Hook := JgHd.hookJ LO HI fx ad vsx
def ob (s : PySem.W.SharedT) : JgHd.AlJ := JgHd.obsT LO HI fx ad s
set_option maxHeartbeats 0 in
theorem run (w : World) : HandSHeadRun.RunEq RR (PySem.W.view RR.prog [54]) hk ob 40000 names w := by
  intro os
  kernel_rfl
end K03
/-! The part that every law of the package shares: readings by steps, the bag of draws, repr, a def that may lean on the guards. -/
namespace Jg
open PySem PySem.Spec PyProof.Rows L2

/-! ### a def whose promise holds where no repr runs around it -/
structure FnG (P : Program) (w : World) (K : PySem.W.Frag) (mg : Str → Option Value) (base : Heap) (k : Nat) (f : Addr) (fd : FuncData) (ps : List Str) (sp : Sp) : Prop where
  many : ∀ vs H Q E, sp vs H Q E → vs.length = ps.length
  go : ∀ (A : Around) (outer : List Env) (s : Shared) (H : Hp) (args : Args) (us : List Value) (vs : List V) (Q : VK) (E : XK),
    Room k A → A.guards = some [] → Env0 P w K mg base A outer s H → BindsTo s fd args (ps.zip us) → Vals vs us → sp vs H Q E →
    codeAny (model P w) A (.call (.ref f) args) (CR CX0 outer P w H s Q E) s

theorem deeper_guards (A : Around) (env : Env) : (A.deeper env).guards = A.guards := rfl

section
variable {P : Program} {w : World} {K : PySem.W.Frag} {mg : Str → Option Value} {base : Heap}
/-- such a def by its body -/
theorem fnG_of {x qual : Str} {st : Stmt} {f : Addr} {fd : FuncData} {N ps : List Str} {k : Nat} {sp : Sp} (F : Fun K x qual st f fd) (S : FnScope N ps (defScope st))
    (len : ∀ vs H Q E, sp vs H Q E → vs.length = ps.length)
    (body : ∀ (cdv : Value) (A : Around) (outer : List Env) (s : Shared) (H : Hp) (vs : List V) (Q : VK) (E : XK),
      Room k (A.deeper (envOfC qual (defScope st) s.heap.objs.size f cdv)) → A.guards = some [] → sp vs H Q E →
      ∃ t, PSs (cxOf CX0 P w K mg base N qual (defScope st) f cdv A outer s H E).nox (defBody st) t ∧ t { nx := fun _ H' => Q .non H', rt := Q } (start N vs) H) :
    FnG P w K mg base (k + 1) f fd ps sp := by
  obtain ⟨oc, od, kV, doc, pm, an, cdv, ct, osl, efd, lk, hcd⟩ := F.ex
  subst efd
  refine ⟨len, fun A outer s H args us vs Q E room gua env bnd rel want => ?_⟩
  -- the promise at these guards alone, as one that any surroundings keep
  have hl := len _ _ _ _ want
  have kin : K.In s.heap := env.mod.kin.keeps fun b o e => (env.bs b o e).1
  have lim : s.heap.NoLimit := env.mod.nolimit.keeps fun b o e => (env.bs b o e).1
  have kinds : ∀ y ∈ ps.zip us, (defScope st).names.lookup y.1 = some .local ∨ ((defScope st).names.lookup y.1 = some .cell ∧ ((cellsFrom (s.heap.objs.size + 1) (defScope st).names []).lookup y.1).isSome = true) := by
    intro y hy
    obtain ⟨n, v⟩ := y
    have hp := S.par n (List.of_mem_zip hy).1
    cases hp with
    | inl q => exact Or.inl q
    | inr q => exact Or.inr ⟨q, PySem.W.cellsFrom_some _ _ _ (Or.inl q)⟩
  refine codeAny_call_function room.depth (kin _ _ lk) rfl S.co S.gen rfl (PySem.W.codeRec_of kin hcd) (bnd _ _ _ _ ?_)
  refine wpAny_newFunctionEnv_cells S.kind kinds ?_
  intro e2 he2 s1 x
  subst he2
  refine ⟨lim.keeps x.toInCall.keep, codeAny_func ?_⟩
  obtain ⟨t, ht, hq⟩ := body cdv A outer s H vs Q E (room.deeper _) gua want
  have I := inv_start (CX := CX0) (qual := qual) (f := f) (cd := cdv) (E := E) S room.hd env hl rel x
  refine wpAny_mono (ht.nox.run [] s1 (start N vs) H _ I hq) ?_ (fun e s' hs => hs)
  intro fl s' hs
  cases fl with
  | ret u =>
    obtain ⟨v, σ', H', J, rv, q⟩ := hs
    exact ⟨v, H', J.os, J.bare, J.base, J.hok, rv, q⟩
  | next =>
    obtain ⟨σ', H', J, q⟩ := hs
    exact ⟨V.non, H', J.os, J.bare, J.base, J.hok, rfl, q⟩
  | brk =>
    obtain ⟨σ', H', J, q⟩ := hs
    exact False.elim q
  | cont =>
    obtain ⟨σ', H', J, q⟩ := hs
    exact False.elim q
theorem FnG.of {k : Nat} {f : Addr} {fd : FuncData} {ps : List Str} {sp : Sp} (F : FnOk P w K mg base CX0 k f fd ps sp) : FnG P w K mg base k f fd ps sp :=
  ⟨F.len, fun A outer s H args us vs Q E room _ env bnd rel want => F.run A outer s H args us vs Q E room env bnd rel want⟩
end

section
variable {X : Cx} {k : Nat} {f : Addr} {fd : FuncData} {ps : List Str} {sp : Sp} {dvs : List V} {ds : List Value} {x : Str} {p pos : Pos} {e : Expr} {es : List Expr} {t : TA}
/-- f(..) of such a def -/
theorem pe_callG (F : FnG X.prog X.w X.K X.mg X.base k f fd ps sp) (room : Room k X.A) (gua : X.A.guards = some []) (hg : Gl X x) (hm : X.mg x = some (.ref f)) (hk : PySem.W.keepIn X.K (.ref f) = true)
    (hb : Binds X.K fd ps ds) (hd : Vals dvs ds) (args : PA X (e :: es) t) (hdb : (x == ("__debug__" : Str)) = false := by decide)
    (he : starEach (e :: es) X.env = (false, eval e X.env) :: starEach es X.env := by rfl) (hpl : (backTo pos (starEach es X.env)).any (·.1) = false := by rfl) :
    PE X (.Call (.Name x p) (e :: es) [] pos) (tCall sp dvs E0 t) := by
  constructor
  intro pins s σ H Q I h
  refine wpAny_Call_Name_kw (ld_glob I hg hm ?_ hdb)
  refine PySem.W.callWith_K (h₀ := X.base) I.ok.mod.kin hk (thn (args.run pos pins s σ H _ I h) ?_) he hpl
  rintro us s1 ⟨vs, H1, I1, rel, want⟩
  refine ⟨I1.kIn, ?_⟩
  have rel2 : Vals (vs ++ dvs) (us ++ ds) := rel.append hd
  have hl : (us ++ ds).length = ps.length := by
    rw [← rel2.length]
    exact F.many _ _ _ _ want
  refine wpAny_call (codeAny_mono (F.go X.A X.stack s1 H1 ⟨us, []⟩ (us ++ ds) (vs ++ dvs) Q E0 room gua I1.env0 (hb s1 us I1.kIn hl) rel2 want) ?_)
  intro r s' hq
  cases r with
  | error e => exact False.elim hq
  | ok fl =>
    cases fl with
    | ret u => exact I1.after hq
    | next => exact False.elim hq
    | brk => exact False.elim hq
    | cont => exact False.elim hq
end
end Jg
namespace Jg
open PySem PySem.Spec PyProof.Rows L2

theorem ns_hid {h : Heap} {H : Hp} {b : Addr} {m : Str → Option Value} (free : ∀ o es ep, h.get? b = some o → o.data = .dict es ep → H b = none) (n : h.Ns b m) : (hidT h H).Ns b m := by
  obtain ⟨o, es, ep, e, d, r⟩ := n
  exact ⟨o, es, ep, hidT_get e (free o es ep e d), d, r⟩
/-- the law's own call where the heap H speaks of the script alone -/
theorem call_at {P : Program} {w : World} {K : PySem.W.Frag} {mg mb : Str → Option Value} {k : Nat} {fa a : Addr} {fd : FuncData} {x : Str} {sp : Sp} {s : Shared} {items : Array Value} {H : Hp}
    (kin : K.In s.heap) (glob : s.heap.Ns mainGlobals mg) (bt : s.heap.Ns builtinsNs mb) (same : ∀ x : Str, x ≠ "__name__" → mb x = bootBuiltins x) (lim : s.heap.NoLimit) (gens : s.gens = #[])
    (scr : s.heap.get? a = some { cls := .type "list", data := .seq items }) (room : Room k callerA)
    (F : ∀ base : Heap, K.In base → base.Ns mainGlobals mg → FnG P w K mg base k fa fd [x] sp) (bnd : ∀ (s : Shared) (u : Value), BindsTo s fd ⟨[u], []⟩ [(x, u)])
    (only : Only H) (ok : HOk P w H s.heap) (here : ∀ b, H b ≠ none → b = a) (apart : H a ≠ none → K.lookup a = none)
    (want : sp [.ref a] H (fun v _ => v = .bl true) fun _ _ _ => False) :
    codeAny (model P w) callerA (.call (.ref fa) ⟨[.ref a], []⟩) (fun r s' => r = .ok (.ret (.bool true)) ∧ OldK s.heap s'.heap ∧ s'.os = s.os ∧ AllBare s'.gens) s := by
  have noDict : ∀ {b : Addr} {o : Obj} {es : Array DictEntry} {ep : Nat}, s.heap.get? b = some o → o.data = .dict es ep → H b = none := by
    intro b o es ep e d
    by_cases z : H b = none
    · exact z
    · have eb := here b z
      subst eb
      rw [scr] at e
      cases e
      cases d
  have base : Env0 P w K mg (hidT s.heap H) callerA [] s H := by
    refine ⟨rfl, ⟨?_, ns_hid (fun _ _ _ => noDict) glob, ⟨mb, ns_hid (fun _ _ _ => noDict) bt, same⟩, ?_⟩, fun b o e => of_hidT e, Nat.le_of_eq (hidT_size _ _), trivial, ?_, ok, .of_eq gens⟩
    · intro b o e
      refine hidT_get (kin b o e) ?_
      by_cases z : H b = none
      · exact z
      · have eb := here b z
        subst eb
        rw [apart z] at e
        cases e
    · obtain ⟨m, h1, h2⟩ := lim
      exact ⟨m, ns_hid (fun _ _ _ => noDict) h1, h2⟩
    · intro b hb
      exact absurd hb (List.not_mem_nil)
  refine codeAny_mono ((F _ base.mod.kin (ns_hid (fun _ _ _ => noDict) glob)).go callerA [] s H ⟨[.ref a], []⟩ [.ref a] [.ref a] _ _ room rfl base (bnd s (.ref a)) (.cons rfl .nil) want) ?_
  intro r s' h
  cases r with
  | error e => exact False.elim h
  | ok fl =>
    cases fl with
    | next => exact False.elim h
    | brk => exact False.elim h
    | cont => exact False.elim h
    | ret u =>
      obtain ⟨v, H', os, bare, un, ok', rel, q⟩ := h
      have q' : v = .bl true := q
      subst q'
      obtain rfl : u = Value.bool true := rel
      refine ⟨rfl, OldK.of_keep ?_, os, bare⟩
      intro b o e
      by_cases z : H b = none
      · exact un.keep b o e z (List.not_mem_nil) (List.not_mem_nil)
      · rcases only b with z2 | ⟨ob, xs, z2⟩
        · exact absurd z2 z
        · have z3 := un.frzs b ob _ z2
          have e1 := (ok b _ z2).1
          have e2 := (ok' b _ z3).1
          rw [e] at e1
          cases e1
          exact e2

theorem call_law {P : Program} {w : World} {K : PySem.W.Frag} {mg mb : Str → Option Value} {k : Nat} {fa a : Addr} {fd : FuncData} {x : Str} {sp : Sp} {s : Shared} {vs : List Value} {ns : List Int}
    (kin : K.In s.heap) (glob : s.heap.Ns mainGlobals mg) (bt : s.heap.Ns builtinsNs mb) (same : ∀ x : Str, x ≠ "__name__" → mb x = bootBuiltins x) (lim : s.heap.NoLimit) (gens : s.gens = #[])
    (scr : s.heap.get? a = some { cls := .type "list", data := .seq vs.toArray }) (hin : IntsAre vs ns) (len : ns.length ≤ sizeLine) (room : Room k callerA)
    (F : ∀ base : Heap, K.In base → base.Ns mainGlobals mg → FnG P w K mg base k fa fd [x] sp) (bnd : ∀ (s : Shared) (u : Value), BindsTo s fd ⟨[u], []⟩ [(x, u)])
    (want : ∀ H : Hp, Only H → SqL K H a (ns.map V.int) → sp [.ref a] H (fun v _ => v = .bl true) fun _ _ _ => False) :
    codeAny (model P w) callerA (.call (.ref fa) ⟨[.ref a], []⟩) (fun r s' => r = .ok (.ret (.bool true)) ∧ OldK s.heap s'.heap ∧ s'.os = s.os ∧ AllBare s'.gens) s := by
  have rel : Vals (ns.map V.int) vs := vals_ints hin
  have lenM : (ns.map V.int).length ≤ sizeLine := by
    rw [List.length_map]
    exact len
  by_cases hk : K.lookup a = none
  · let o : Obj := { cls := .type "list", data := .seq vs.toArray }
    let H : Hp := fun b => if b = a then some (.frz o (.lst (ns.map V.int))) else none
    have at_a : H a = some (.frz o (.lst (ns.map V.int))) := if_pos rfl
    have off : ∀ b, b ≠ a → H b = none := fun b hb => if_neg hb
    have on : Only H := by
      intro b
      by_cases hb : b = a
      · subst hb
        exact Or.inr ⟨_, _, at_a⟩
      · exact Or.inl (off b hb)
    have ok : HOk P w H s.heap := by
      intro b u e
      by_cases hb : b = a
      · subst hb
        rw [at_a] at e
        cases e
        exact ⟨scr, lenM, vs, _, rel, scr⟩
      · rw [off b hb] at e
        cases e
    have here : ∀ b, H b ≠ none → b = a := by
      intro b z
      by_cases hb : b = a
      · exact hb
      · exact absurd (off b hb) z
    exact call_at kin glob bt same lim gens scr room F bnd on ok here (fun _ => hk) (want H on (Or.inl (Or.inr ⟨o, at_a⟩)))
  · obtain ⟨o, ho⟩ := Option.ne_none_iff_exists'.mp hk
    have e := kin a o ho
    rw [scr] at e
    cases e
    let H : Hp := fun _ => none
    have on : Only H := fun _ => Or.inl rfl
    have ok : HOk P w H s.heap := fun b u e => by cases e
    have sq : SqL K H a (ns.map V.int) := Or.inr ⟨_, vs.toArray, _, ho, rfl, rfl, rfl, by rw [List.size_toArray, ← rel.length]; exact lenM, by simpa using rel⟩
    exact call_at kin glob bt same lim gens scr room F bnd on ok (fun b z => absurd rfl z) (fun z => absurd rfl z) (want H on sq)

/-- the goal behind the head, from the law's promise -/
theorem walkG {l : PySem.W.OpenLaw} {n k : Nat} {q : Program} {loose : List Str} {XP : (Str → Option Value) → Heap → Prop} {YP : World → Heap → Prop} {d : DefRec} {K : Params → PySem.W.Frag} {sp : PySem.W.Frag → Sp} {x : Str}
    (hn : l.most = some n) (hn2 : n ≤ sizeLine) (hdf : d.params.defaults = []) (room : Room k callerA)
    (hY : ∀ (w : World) (h : Heap), YP w h → (K w.params).In h)
    (F : ∀ (w : World) (mg : Str → Option Value) (fa : Addr) (h : Heap), (K w.params).In h → h.Ns mainGlobals mg → mg d.name = some (.ref fa) →
      ∃ fd : FuncData, (∀ (s : Shared) (u : Value), BindsTo s fd ⟨[u], []⟩ [(x, u)]) ∧
        ∀ base : Heap, (K w.params).In base → base.Ns mainGlobals mg → FnG l.prog w (K w.params) mg base k fa fd [x] (sp (K w.params)))
    (want : ∀ (K : PySem.W.Frag) (H : Hp) (a : Addr) (ns : List Int), ns.length ≤ n → Only H → SqL K H a (ns.map V.int) → sp K [.ref a] H (fun v _ => v = .bl true) fun _ _ _ => False) :
    PySem.W.WalkO q loose XP YP l.row.toRowW d [] (fun f vs => PySem.call f vs) := by
  refine Att.attach_call hn hdf ?_
  intro w s₀ s₁ mg mb fa o pm cd doc a vs ns G Y ho hd hcd hmg hobj hints hlen hg
  have kin := hY w _ Y
  obtain ⟨fd, hb, hF⟩ := F w mg fa _ kin G.T.g hmg
  exact call_law kin G.T.g G.T.b G.T.builtins G.T.nolimit hg hobj hints (Nat.le_trans hlen hn2) room hF hb fun H on sq => want (K w.params) H a ns hlen on sq
end Jg
namespace Jg
open PySem PySem.Spec PyProof.Rows L2
/-! ### repr of data -/
def rRepr (K : PySem.W.Frag) : List V → Hp → VK → Prop := fun xs H Q => ∃ x d, xs = [x] ∧ Dp K H x d ∧ d.showable = true ∧ d.hasDict = false ∧ d.depth ≤ 60 ∧ d.shown.length ≤ sizeLine ∧ Q (.str d.shown) H
theorem call_repr {X : Cx} {K : PySem.W.Frag} (gua : X.A.guards = some []) (hu : X.A.units + 64 < cLine) (hK : X.K = K := by rfl) : CallR X (.builtin "repr") (rRepr K) := by
  subst hK
  intro pins s σ H xs us Q I rel h
  obtain ⟨x, d, rfl, hd, sh, nd, dp, sz, q⟩ := h
  obtain ⟨u, rfl, ru⟩ := vals1 rel
  obtain ⟨as, rd⟩ := Dp.reads I d x u hd ru
  have leaf : ∀ tk, EP X pins σ Q (.str d.shown tk) { s with toks := s.toks + 1 } := fun tk => ⟨.str d.shown, H, I.tok _, ⟨tk, rfl⟩, q⟩
  cases u with
  | ref a =>
    refine repr_of_reads' rd sh (PyData.noDict_hsm nd) gua (by omega) (fun b o e => e) ?_ sz
    intro h' u tk keep
    exact ⟨.str d.shown, H, I.kept keep, ⟨u, rfl⟩, q⟩
  | none =>
    cases rd
    simp only [PyData.shown] at leaf sz
    exact PySem.P.repr_of_none (leaf _)
  | bool b =>
    cases rd
    simp only [PyData.shown] at leaf sz
    exact PySem.P.repr_of_bool (leaf _)
  | int i t =>
    cases rd
    simp only [PyData.shown] at leaf sz
    exact PySem.P.repr_of_int (by simpa [PyData.showable] using sh) (leaf _)
  | str z t =>
    cases rd
    simp only [PyData.shown] at leaf sz
    exact PySem.P.repr_of_str (leaf _) sz
  | _ => cases rd
end Jg
namespace Jg
open PySem PySem.Spec L2
/-! ### operations by name -/
def rAddS : R2 := fun x y H Q => ∃ i j, x = .str i ∧ y = .str j ∧ i.length + j.length ≤ sizeLine ∧ Q (.str (i ++ j)) H
theorem op_addS {X : Cx} : OpR X (binaryOp .Add) rAddS := op_add_str
def rLen (K : PySem.W.Frag) : List V → Hp → VK → Prop := fun xs H Q => ∃ x n, xs = [x] ∧ LenV K x H n ∧ Q (.int n) H
theorem call_lenV {X : Cx} {K : PySem.W.Frag} (hK : X.K = K := by rfl) : CallR X (.builtin "len") (rLen K) := by
  subst hK
  intro pins s σ H xs us Q I rel h
  obtain ⟨x, n, e, l, q⟩ := h
  exact call_len pins s σ H xs us Q I rel ⟨x, n, e, l, q⟩
def rMax : List V → Hp → VK → Prop := fun xs H Q => ∃ i j, xs = [.int i, .int j] ∧ Q (.int (if j > i then j else i)) H
theorem call_maxV {X : Cx} (hc : X.calm = true) : CallR X (.builtin "max") rMax := call_max2 hc
def rMin : List V → Hp → VK → Prop := fun xs H Q => ∃ i j, xs = [.int i, .int j] ∧ Q (.int (if j < i then j else i)) H
theorem call_minV {X : Cx} (hc : X.calm = true) : CallR X (.builtin "min") rMin := call_min2 hc
def rInt : List V → Hp → VK → Prop := fun xs H Q => (∃ i, xs = [.int i] ∧ Q (.int i) H) ∨ ∃ k, xs = [.bl k] ∧ Q (.int (if k then 1 else 0)) H
theorem call_intV {X : Cx} : CallR X (.type "int") rInt := call_int1
def rIs : R2 := fun x y H Q => y = .non ∧ Q (.bl (decide (x = .non))) H
theorem op_isV {X : Cx} : OpR X (compareOp .Is) rIs := op_isN
def rIsNot : R2 := fun x y H Q => y = .non ∧ Q (.bl (!decide (x = .non))) H
theorem op_isNotV {X : Cx} : OpR X (compareOp .IsNot) rIsNot := op_notN
def rJoin (K : PySem.W.Frag) : V → List V → Hp → VK → Prop := fun x xs H Q => ∃ a p, ∃ ys : List Str, x = .str a ∧ xs = [.ref p] ∧ (SqL K H p (ys.map V.str) ∨ SqT K H p (ys.map V.str)) ∧
  (ys.map (·.length)).sum + ys.length * a.length ≤ 16777216 ∧ Q (.str (Txt.join a ys)) H
theorem mt_joinV {X : Cx} {K : PySem.W.Frag} (hK : X.K = K := by rfl) : MtR X "str.join" (rJoin K) := by
  subst hK
  exact mt_join
theorem ix_listV {X : Cx} {K : PySem.W.Frag} (hK : X.K = K := by rfl) : IxR X (rIxL K) := by
  subst hK
  exact ix_list
theorem ix_tupV {X : Cx} {K : PySem.W.Frag} (hK : X.K = K := by rfl) : IxR X (rIxT K) := by
  subst hK
  exact ix_tup
theorem call_isiV {X : Cx} {K : PySem.W.Frag} (hK : X.K = K := by rfl) : CallR X (.builtin "isinstance") (rIsi K) := by
  subst hK
  exact call_isi
def rSplit : V → List V → Hp → VK → Prop := fun x xs H Q => ∃ a b, x = .str a ∧ xs = [.str b] ∧ (b.length == 0) = false ∧ a.length + 2 ≤ sizeLine ∧ rNewStrs (Txt.split a b) H Q
theorem mt_splitV {X : Cx} : MtR X "str.split" rSplit := mt_split
/-! ### readings, a step each -/
section
variable {σ : L2.St} {H : Hp} {Q : VK} {B : Bool → Hp → Prop} {R : List V → Hp → Prop} {D : Ends} {i : Nat} {v x y : V} {ta tb te : TE} {t u c : TT} {ts ts2 : TS} {tas : TA} {b : Bool} {g : TG} {r : R2} {K : PySem.W.Frag}
theorem g_var (e : σ[i]? = some (some v)) (q : Q v H) : tVar i σ H Q := ⟨v, e, q⟩
theorem g_c (q : Q v H) : tC v σ H Q := q
theorem g_op (q : ta σ H fun x H1 => tb σ H1 fun y H2 => r x y H2 Q) : tOp r ta tb σ H Q := q
theorem g_un {r : V → Hp → VK → Prop} (q : ta σ H fun x H1 => r x H1 Q) : tUn r ta σ H Q := q
theorem g_I0 {g : Int → Int → V} {a b : Int} (q : Q (g a b) H) : rI0 g (.int a) (.int b) H Q := ⟨a, b, rfl, rfl, q⟩
theorem g_I {C : Int → Int → Prop} {g : Int → Int → V} {a b : Int} (h : C a b) (q : Q (g a b) H) : rI C g (.int a) (.int b) H Q := ⟨a, b, rfl, rfl, h, q⟩
theorem g_addS {a b : Str} (h : a.length + b.length ≤ sizeLine) (q : Q (.str (a ++ b)) H) : rAddS (.str a) (.str b) H Q := ⟨a, b, rfl, rfl, h, q⟩
theorem g_eq (h : scal x y = true) (q : Q (.bl (decide (x = y))) H) : rEq x y H Q := ⟨h, q⟩
theorem g_ne (h : scal x y = true) (q : Q (.bl (!decide (x = y))) H) : rNe x y H Q := ⟨h, q⟩
theorem g_is (q : Q (.bl (decide (x = .non))) H) : rIs x .non H Q := ⟨rfl, q⟩
theorem g_isNot (q : Q (.bl (!decide (x = .non))) H) : rIsNot x .non H Q := ⟨rfl, q⟩
theorem g_test (q : ta σ H fun x H' => ∃ k, x = .bl k ∧ B k H') : tTest ta σ H B := q
theorem g_B (q : ta σ H fun x H' => ∃ k, x = .bl k ∧ B k H') : tB ta σ H B := q
theorem g_bl {B : Bool → Prop} (q : B b) : ∃ k, V.bl b = .bl k ∧ B k := ⟨b, rfl, q⟩
theorem g_not (q : t σ H fun c H1 => B (!c) H1) : tNot t σ H B := q
theorem g_and (q : t σ H fun c H1 => if c = true then u σ H1 B else B false H1) : tAnd t u σ H B := q
theorem g_or (q : t σ H fun c H1 => if c = true then B true H1 else u σ H1 B) : tOr t u σ H B := q
theorem g_notV (q : ta σ H fun x H1 => ∃ c, x = .bl c ∧ Q (.bl (!c)) H1) : tNotV ta σ H Q := q
theorem g_andV (q : ta σ H fun x H1 => ∃ c, x = .bl c ∧ if c = true then tb σ H1 Q else Q (.bl false) H1) : tAndV ta tb σ H Q := q
theorem g_orV (q : ta σ H fun x H1 => ∃ c, x = .bl c ∧ if c = true then Q (.bl true) H1 else tb σ H1 Q) : tOrV ta tb σ H Q := q
theorem g_if (q : t σ H fun c H1 => if c = true then ta σ H1 Q else tb σ H1 Q) : tIf t ta tb σ H Q := q
theorem g_nil (q : R [] H) : tNil σ H R := q
theorem g_cons (q : ta σ H fun x H1 => tas σ H1 fun xs H2 => R (x :: xs) H2) : tCons ta tas σ H R := q
theorem g_lst (q : tas σ H fun xs H1 => xs.length ≤ sizeLine ∧ ∀ p, H1 p = none → Q (.ref p) (upd H1 p (.lst xs))) : tLst tas σ H Q := q
theorem g_tup (q : tas σ H fun xs H1 => xs.length ≤ sizeLine ∧ ∀ p, H1 p = none → Q (.ref p) (upd H1 p (.tup xs))) : tTup tas σ H Q := q
theorem g_call {sp : Sp} {dvs : List V} {E : XK} (q : tas σ H fun vs H1 => sp (vs ++ dvs) H1 Q E) : tCall sp dvs E tas σ H Q := q
theorem g_CB {r : List V → Hp → VK → Prop} (q : tas σ H fun vs H1 => r vs H1 Q) : tCB r tas σ H Q := q
theorem g_int {a : Int} (q : Q (.int a) H) : rInt [.int a] H Q := Or.inl ⟨a, rfl, q⟩
theorem g_intB {k : Bool} (q : Q (.int (if k then 1 else 0)) H) : rInt [.bl k] H Q := Or.inr ⟨k, rfl, q⟩
theorem g_lenS {z : Str} (h : z.length ≤ sizeLine) (q : Q (.int z.length) H) : rLen K [.str z] H Q := ⟨_, z.length, rfl, ⟨h, rfl⟩, q⟩
theorem g_lenL {p : Addr} {xs : List V} (h : SqL K H p xs) (q : Q (.int xs.length) H) : rLen K [.ref p] H Q := ⟨_, xs.length, rfl, Or.inl ⟨xs, h, rfl⟩, q⟩
theorem g_lenT {p : Addr} {xs : List V} (h : SqT K H p xs) (q : Q (.int xs.length) H) : rLen K [.ref p] H Q := ⟨_, xs.length, rfl, Or.inr ⟨xs, h, rfl⟩, q⟩
theorem g_max {a b : Int} (q : Q (.int (if b > a then b else a)) H) : rMax [.int a, .int b] H Q := ⟨a, b, rfl, q⟩
theorem g_min {a b : Int} (q : Q (.int (if b < a then b else a)) H) : rMin [.int a, .int b] H Q := ⟨a, b, rfl, q⟩
theorem g_ixL {p : Addr} {xs : List V} {k : Int} (h : SqL K H p xs) (e : atI xs k = some v) (q : Q v H) : rIxL K (.ref p) (.int k) H Q := ⟨p, xs, k, v, rfl, rfl, h, e, q⟩
theorem g_ixT {p : Addr} {xs : List V} {k : Int} (h : SqT K H p xs) (e : atI xs k = some v) (q : Q v H) : rIxT K (.ref p) (.int k) H Q := ⟨p, xs, k, v, rfl, rfl, h, e, q⟩
theorem g_ixS {z : Str} {k : Int} {cp : Nat} (h : z.length ≤ sizeLine) (e : atI z.cps.toList k = some cp) (q : Q (.str ⟨#[cp]⟩) H) : rIxS (.str z) (.int k) H Q := ⟨z, k, cp, rfl, rfl, h, e, q⟩
theorem g_repr {d : PyData} (hd : Dp K H x d) (sh : d.showable = true) (nd : d.hasDict = false) (dp : d.depth ≤ 60) (sz : d.shown.length ≤ sizeLine) (q : Q (.str d.shown) H) : rRepr K [x] H Q := ⟨x, d, rfl, hd, sh, nd, dp, sz, q⟩
theorem g_isi {c : V} {ty k : Value} (kc : ClsV c k) (tx : TyX K H x ty) (e : PySem.W.kitOne K ty k = some b) (q : Q (.bl b) H) : rIsi K [x, c] H Q := ⟨x, c, ty, k, b, rfl, kc, tx, e, q⟩
/-! statements -/
theorem s_seq (q : ts { D with nx := ts2 D } σ H) : tSeq ts ts2 D σ H := q
theorem s_next (q : D.nx σ H) : tNext D σ H := q
theorem s_brk (q : D.bk σ H) : tBreak D σ H := q
theorem s_cont (q : D.ct σ H) : tCont D σ H := q
theorem s_drop (q : te σ H fun _ H1 => D.nx σ H1) : tDrop te D σ H := q
theorem s_ret (q : te σ H D.rt) : tRet te D σ H := q
theorem s_retN (q : D.rt .non H) : tRetN D σ H := q
theorem s_if (q : c σ H fun b H1 => if b = true then ts D σ H1 else ts2 D σ H1) : tIfS c ts ts2 D σ H := q
theorem s_asg (q : te σ H fun x H1 => g x σ H1 D.nx) : tAsg te g D σ H := q
theorem s_name {N : St → Hp → Prop} (q : N (σ.set i (some v)) H) : gName i v σ H N := q
theorem s_sub {to ti : TE} {t : TSet} {N : St → Hp → Prop} (q : to σ H fun o H1 => ti σ H1 fun i H2 => t o i v H2 fun H3 => N σ H3) : gSub to ti t v σ H N := q
theorem s_setL {p : Addr} {xs : List V} {k : Int} {j : Nat} {N : Hp → Prop} (h : H p = some (.lst xs)) (e : ixN xs.length k = some j) (q : N (upd H p (.lst (xs.set j v)))) : rSetL (.ref p) (.int k) v H N := ⟨p, xs, k, j, rfl, rfl, h, e, q⟩
theorem s_append {p : Addr} {xs : List V} (h : H p = some (.lst xs)) (l : xs.length < sizeLine) (q : Q .non (upd H p (.lst (xs ++ [v])))) : rAppend (.ref p) [v] H Q := ⟨p, xs, v, rfl, rfl, h, l, q⟩
theorem g_BM {T : String} {r : V → List V → Hp → VK → Prop} (q : ta σ H fun x H1 => tyV K T x H1 ∧ tas σ H1 fun xs H2 => r x xs H2 Q) : tBM K T r ta tas σ H Q := q
theorem g_M1 {r : V → List V → Hp → VK → Prop} (q : ta σ H fun x H1 => (∃ a, x = .str a) ∧ tb σ H1 fun y H2 => r x [y] H2 Q) : tM1 r ta tb σ H Q := q
theorem g_str {s : Str} {A : Prop} (q : A) : (∃ a, V.str s = .str a) ∧ A := ⟨⟨s, rfl⟩, q⟩
theorem g_sl {r : V → Option Int → Option Int → Hp → VK → Prop} {tl th : TO} (q : ta σ H fun x H1 => tl σ H1 fun l H2 => th σ H2 fun u H3 => r x l u H3 Q) : tSl r ta tl th σ H Q := q
theorem g_noPart {N : Option Int → Hp → Prop} (q : N none H) : tNoPart σ H N := q
theorem g_part {N : Option Int → Hp → Prop} (q : ta σ H fun x H1 => ∃ i, x = .int i ∧ N (some i) H1) : tPart ta σ H N := q
theorem g_ex {N : Int → Prop} {a : Int} (q : N a) : ∃ i, V.int a = .int i ∧ N i := ⟨a, rfl, q⟩
theorem g_slS {z : Str} {l h : Option Int} (hz : z.length ≤ sizeLine) (q : Q (.str (cutS z l h)) H) : rSlS (.str z) l h H Q := ⟨z, rfl, hz, q⟩
theorem g_true {A B : Prop} (q : A) : if true = true then A else B := by
  rw [if_pos rfl]
  exact q
theorem g_false {A B : Prop} (q : B) : if false = true then A else B := by
  rw [if_neg Bool.false_ne_true]
  exact q
theorem g_yes {c A B : Prop} [Decidable c] (h : c) (q : A) : if decide c = true then A else B := by
  rw [decide_eq_true h, if_pos rfl]
  exact q
theorem g_no {c A B : Prop} [Decidable c] (h : ¬ c) (q : B) : if decide c = true then A else B := by
  rw [decide_eq_false h, if_neg Bool.false_ne_true]
  exact q
theorem g_two {c A B : Prop} [Decidable c] (h1 : c → A) (h2 : ¬ c → B) : if decide c = true then A else B := by
  by_cases h : c
  · exact g_yes h (h1 h)
  · exact g_no h (h2 h)
theorem g_way {c : Bool} {A B : Prop} (h1 : c = true → A) (h2 : c = false → B) : if c = true then A else B := by
  cases c with
  | true => exact g_true (h1 rfl)
  | false => exact g_false (h2 rfl)
end
end Jg
namespace Jg
open PySem PySem.Spec L2
/-! ### the bag of draws -/
/-- a bag stands at p: what is left of the cell, its rest, how many were mixed, n at most -/
def Bg (H : Hp) (p : Addr) (n : Nat) : Prop := ∃ a b c : Int, H p = some (.lst [.int a, .int b, .int c]) ∧ 0 ≤ b ∧ b < 2147483629 ∧ 0 ≤ c ∧ c ≤ (n : Int)
theorem Bg.mono {H : Hp} {p : Addr} {n m : Nat} (B : Bg H p n) (h : n ≤ m) : Bg H p m := by
  obtain ⟨a, b, c, e, h1, h2, h3, h4⟩ := B
  exact ⟨a, b, c, e, h1, h2, h3, by omega⟩
/-- all but the bag is as it was -/
def Mv (p : Addr) (H H' : Hp) : Prop := ∀ b o, b ≠ p → H b = some o → H' b = some o
theorem Mv.refl (p : Addr) (H : Hp) : Mv p H H := fun _ _ _ h => h
theorem Mv.trans {p : Addr} {H H1 H2 : Hp} (a : Mv p H H1) (b : Mv p H1 H2) : Mv p H H2 := fun x o hx h => b x o hx (a x o hx h)
theorem Mv.upd (p : Addr) (H : Hp) (o : HO) : Mv p H (upd H p o) := fun b u hb h => by
  rw [upd_ne hb]
  exact h
theorem Mv.new {p q : Addr} {H : Hp} {o : HO} (h : H q = none) : Mv p H (L2.upd H q o) := fun b u hb e => by
  rw [upd_ne (ne_of_none e h)]
  exact e
theorem Bg.some {H : Hp} {p : Addr} {n : Nat} (B : Bg H p n) : ∃ o, H p = some o := by
  obtain ⟨a, b, c, e, _⟩ := B
  exact ⟨_, e⟩
theorem Bg.ne {H : Hp} {p q : Addr} {n : Nat} (B : Bg H p n) (h : H q = none) : q ≠ p := by
  obtain ⟨o, e⟩ := B.some
  exact (ne_of_none e h).symm
theorem Bg.new {H : Hp} {p q : Addr} {n : Nat} {o : HO} (B : Bg H p n) (h : H q = none) : Bg (L2.upd H q o) p n := by
  obtain ⟨a, b, c, e, r⟩ := B
  exact ⟨a, b, c, by rw [upd_ne (ne_of_none e h)]; exact e, r⟩
theorem Bg.off {H : Hp} {p q : Addr} {n : Nat} {o : HO} (B : Bg H p n) (h : q ≠ p) : Bg (L2.upd H q o) p n := by
  obtain ⟨a, b, c, e, r⟩ := B
  exact ⟨a, b, c, by rw [upd_ne h.symm]; exact e, r⟩
/-- what is free behind was free ahead -/
theorem Mv.free {p q : Addr} {H H' : Hp} {n : Nat} (m : Mv p H H') (B : Bg H' p n) (h : H' q = none) : H q = none := by
  have hq := B.ne h
  cases e : H q with
  | none => rfl
  | some o =>
    rw [m q o hq e] at h
    cases h
theorem Mv.sq {K : PySem.W.Frag} {p q : Addr} {H H' : Hp} {xs : List V} {n : Nat} (m : Mv p H H') (hq : q ≠ p) (h : SqL K H q xs) : SqL K H' q xs := by
  rcases h with (h | ⟨o, h⟩) | h
  · exact Or.inl (Or.inl (m _ _ hq h))
  · exact Or.inl (Or.inr ⟨o, m _ _ hq h⟩)
  · exact Or.inr h
end Jg
namespace Jg
open PySem PySem.Spec L2
/-! ### loops and comprehensions -/
/-- what a comprehension asks once its source stands -/
def lcB (g : TG) (tt : TT) (te : TE) (vs : List Nat) (σ : L2.St) (Q : VK) : It → Hp → Prop := fun J H1 => ∀ D, H1 D = none → ∃ W : Nat → Nat → Hp → Prop, (∃ m, W 0 m (upd H1 D (.lst []))) ∧ ∀ i m H, W i m H →
  (J.stop i H ∧ Q (.ref D) H) ∨ (J.go i H ∧ ∃ Nx : Hp → Prop, (∀ H', Nx H' → ∃ m', m' < m ∧ W (i + 1) m' H') ∧ ∀ x H', J.yld i H x H' → g x (wipe σ vs) H' fun σ2 H2 => wipe σ2 vs = wipe σ vs ∧ tt σ2 H2 fun b H3 =>
    if b = true then te σ2 H3 fun y H4 => ∃ acc, H4 D = some (.lst acc) ∧ acc.length < sizeLine ∧ Nx (upd H4 D (.lst (acc ++ [y]))) else Nx H3)
/-- what a for asks -/
def forB (g : TG) (tb : TS) (D : Ends) (σ : L2.St) : It → Hp → Prop := fun J H1 => ∃ W : Nat → Nat → L2.St → Hp → Prop, (∃ m, W 0 m σ H1) ∧ ∀ i m σ H, W i m σ H →
  (J.stop i H ∧ D.nx σ H) ∨ (J.go i H ∧ ∃ N : L2.St → Hp → Prop, (∀ σ' H', N σ' H' → ∃ m', m' < m ∧ W (i + 1) m' σ' H') ∧ ∀ x H', J.yld i H x H' → g x σ H' fun σ2 H2 => tb { D with nx := N, ct := N, bk := D.nx } σ2 H2)
section
variable {σ : L2.St} {H : Hp} {Q : VK} {D : Ends} {wi : TI} {g : TG} {tt : TT} {te : TE} {vs : List Nat} {tb : TS} {ta : TA} {tl : TE} {R : It → Hp → Prop} {K : PySem.W.Frag} {i : Nat}
theorem g_lc (q : wi σ H (lcB g tt te vs σ Q)) : tLc wi g tt te vs σ H Q := q
theorem s_for (q : wi σ H (forB g tb D σ)) : tFor wi g tb D σ H := q
theorem g_rng1 (q : ta σ H fun vs H1 => ∃ j : Int, vs = [.int j] ∧ -(2 ^ 62) ≤ j ∧ j < 2 ^ 62 ∧ R (Itr 0 j.toNat) H1) : iRng1 ta σ H R := q
theorem g_rngN {j : Int} (h : 0 ≤ j ∧ j < 2 ^ 62) (q : R (Itr 0 j.toNat) H) : ∃ j' : Int, [V.int j] = [.int j'] ∧ -(2 ^ 62) ≤ j' ∧ j' < 2 ^ 62 ∧ R (Itr 0 j'.toNat) H := ⟨j, rfl, by omega, h.2, q⟩
theorem g_iList (q : tl σ H fun x H1 => ∃ a, x = .ref a ∧ (∃ xs, SqL K H1 a xs) ∧ R (Itl K a) H1) : iList K tl σ H R := q
theorem g_iTup (q : tl σ H fun x H1 => ∃ a, x = .ref a ∧ (∃ xs, SqT K H1 a xs) ∧ R (Itt K a) H1) : iTup K tl σ H R := q
theorem g_itl {a : Addr} {xs : List V} (h : SqL K H a xs) (q : R (Itl K a) H) : ∃ a', V.ref a = .ref a' ∧ (∃ xs, SqL K H a' xs) ∧ R (Itl K a') H := ⟨a, rfl, ⟨xs, h⟩, q⟩
theorem g_itt {a : Addr} {xs : List V} (h : SqT K H a xs) (q : R (Itt K a) H) : ∃ a', V.ref a = .ref a' ∧ (∃ xs, SqT K H a' xs) ∧ R (Itt K a') H := ⟨a, rfl, ⟨xs, h⟩, q⟩
theorem g_iStr (q : tl σ H fun v H1 => ∃ x, v = .str x ∧ R (Its x) H1) : iStr tl σ H R := q
theorem g_its {z : Str} (q : R (Its z) H) : ∃ x, V.str z = .str x ∧ R (Its x) H := ⟨z, rfl, q⟩
theorem g_tyes {B : Bool → Hp → Prop} (q : B true H) : tYes σ H B := q
/-- [f x for x in xs], f without a trace: a new list of what comes -/
theorem lc_pure {a : Addr} {xs : List V} (f : V → V) (sq : SqL K H a xs) (hn : xs.length < sizeLine) (wv : ∀ x, wipe ((wipe σ [i]).set i (some x)) [i] = wipe σ [i])
    (hs : ∀ x ∈ xs, ∀ (H2 : Hp) (R : VK), Same H H2 → R (f x) H2 → te ((wipe σ [i]).set i (some x)) H2 R)
    (q : ∀ D, H D = none → Q (.ref D) (upd H D (.lst (xs.map f)))) : lcB (gName i) tYes te [i] σ Q (Itl K a) H := by
  intro D hD
  refine lc_list (xs := xs) (fun j H2 => H2 = upd H D (.lst ((xs.take j).map f))) (by rw [List.take_zero, List.map_nil]) ?_ ?_ ?_
  · rintro j H2 hj rfl
    rcases sq with (h | ⟨o, h⟩) | h
    · exact Or.inl (Or.inl (by rw [upd_ne (ne_of_none h hD)]; exact h))
    · exact Or.inl (Or.inr ⟨o, by rw [upd_ne (ne_of_none h hD)]; exact h⟩)
    · exact Or.inr h
  · rintro j x H2 hx rfl
    refine ⟨wv x, ?_⟩
    with_reducible refine g_tyes ?_
    with_reducible refine g_true ?_
    refine hs x (List.mem_of_getElem? hx) _ _ (fun b o e => by rw [upd_ne (ne_of_none e hD)]; exact e) ?_
    refine ⟨_, upd_same, ?_, ?_⟩
    · rw [List.length_map]
      exact Nat.lt_of_le_of_lt (List.length_take_le' _ _) hn
    · rw [upd_upd, List.take_add_one, hx, List.map_append]
      rfl
  · rintro H2 rfl
    rw [List.take_length]
    exact q D hD
/-- [f(bag) for k in range(n)]: the bag stands at p, each draw at most c -/
theorem lc_draw {p : Addr} {n b0 c : Nat} (E : V → Prop) (hn : n < sizeLine) (B : Bg H p b0) (wv : ∀ x, wipe ((wipe σ [i]).set i (some x)) [i] = wipe σ [i])
    (hs : ∀ (j : Nat) (H2 : Hp) (R : VK), j < n → Bg H2 p (b0 + j * c) → Mv p H H2 → (∀ y H3, E y → Bg H3 p (b0 + (j + 1) * c) → Mv p H2 H3 → R y H3) → te ((wipe σ [i]).set i (some (.int (0 + (j : Nat))))) H2 R)
    (q : ∀ D H' ys, H D = none → D ≠ p → ys.length = n → (∀ y ∈ ys, E y) → H' D = some (.lst ys) → Bg H' p (b0 + n * c) → Mv p H H' → Q (.ref D) H') : lcB (gName i) tYes te [i] σ Q (Itr 0 n) H := by
  intro D hD
  have nD := B.ne hD
  refine lc_range (lo := 0) (n := n) (fun j H2 => ∃ ys, ys.length = j ∧ (∀ y ∈ ys, E y) ∧ H2 D = some (.lst ys) ∧ Bg H2 p (b0 + j * c) ∧ Mv p H H2) ⟨[], rfl, by simp, upd_same, by simpa using B.new hD, Mv.new hD⟩ ?_ ?_
  · rintro j H2 hj ⟨ys, l, he, hd, B2, m⟩
    refine ⟨wv _, ?_⟩
    with_reducible refine g_tyes ?_
    with_reducible refine g_true ?_
    refine hs j H2 _ hj B2 m ?_
    intro y H3 ey B3 m3
    refine ⟨ys, m3 _ _ nD hd, by omega, ys ++ [y], by rw [List.length_append, l]; rfl, ?_, upd_same, B3.off nD, ?_⟩
    · intro z hz
      rcases List.mem_append.mp hz with h | h
      · exact he z h
      · rw [List.mem_singleton.mp h]
        exact ey
    · intro b o hb e
      rw [upd_ne (ne_of_none e hD)]
      exact m3 b o hb (m b o hb e)
  · rintro H2 ⟨ys, l, he, hd, B2, m⟩
    exact q D H2 ys hD nD l he hd B2 m
end
/-! ### signs -/
def rInC : R2 := fun x y H Q => ∃ c z, x = .str ⟨#[c]⟩ ∧ y = .str z ∧ Q (.bl (decide (c ∈ z.cps.toList))) H
theorem op_inC {X : Cx} : OpR X (compareOp .In) rInC := op_in_sign
theorem g_inC {H : Hp} {Q : VK} {c : Nat} {x z : Str} (e : x = ⟨#[c]⟩) (q : Q (.bl (decide (c ∈ z.cps.toList))) H) : rInC (.str x) (.str z) H Q := ⟨c, z, by rw [e], rfl, q⟩
def rInL (K : PySem.W.Frag) : R2 := rIn K false
theorem op_inL {X : Cx} {K : PySem.W.Frag} (hK : X.K = K := by rfl) : OpR X (compareOp .In) (rInL K) := by
  subst hK
  exact op_in_seq
theorem g_inL {K : PySem.W.Frag} {H : Hp} {Q : VK} {x : V} {p : Addr} {xs : List V} (h : SqL K H p xs) (fx : flatV x = true) (fs : xs.all flatV = true) (q : Q (.bl (inV x xs)) H) : rInL K x (.ref p) H Q := ⟨p, xs, rfl, Or.inl h, fx, fs, q⟩
def rAnyB (K : PySem.W.Frag) : List V → Hp → VK → Prop := fun xs H Q => ∃ (a : Addr) (bs : List Bool), xs = [.ref a] ∧ SqL K H a (bs.map V.bl) ∧ Q (.bl (bs.any id)) H
theorem call_any {X : Cx} {K : PySem.W.Frag} (hc : X.calm = true) (hK : X.K = K := by rfl) : CallR X (.builtin "any") (rAnyB K) := by
  subst hK
  exact cr_any hc
def rAllB (K : PySem.W.Frag) : List V → Hp → VK → Prop := fun xs H Q => ∃ (a : Addr) (bs : List Bool), xs = [.ref a] ∧ SqL K H a (bs.map V.bl) ∧ Q (.bl (bs.all id)) H
theorem call_all {X : Cx} {K : PySem.W.Frag} (hc : X.calm = true) (hK : X.K = K := by rfl) : CallR X (.builtin "all") (rAllB K) := by
  subst hK
  exact cr_all hc
theorem g_any {K : PySem.W.Frag} {H : Hp} {Q : VK} {a : Addr} {bs : List Bool} (h : SqL K H a (bs.map V.bl)) (q : Q (.bl (bs.any id)) H) : rAnyB K [.ref a] H Q := ⟨a, bs, rfl, h, q⟩
theorem g_all {K : PySem.W.Frag} {H : Hp} {Q : VK} {a : Addr} {bs : List Bool} (h : SqL K H a (bs.map V.bl)) (q : Q (.bl (bs.all id)) H) : rAllB K [.ref a] H Q := ⟨a, bs, rfl, h, q⟩
theorem g_join {K : PySem.W.Frag} {H : Hp} {Q : VK} {a : Str} {p : Addr} {ys : List Str} (h : SqL K H p (ys.map V.str)) (l : (ys.map (·.length)).sum + ys.length * a.length ≤ 16777216) (q : Q (.str (Txt.join a ys)) H) : rJoin K (.str a) [.ref p] H Q := ⟨a, p, ys, rfl, rfl, Or.inl h, l, q⟩
theorem g_split {H : Hp} {Q : VK} {a b : Str} (hb : (b.length == 0) = false) (l : a.length + 2 ≤ sizeLine) (q : ∀ p, H p = none → Q (.ref p) (upd H p (.lst ((Txt.split a b).map V.str)))) : rSplit (.str a) [.str b] H Q := ⟨a, b, rfl, rfl, hb, l, q⟩
theorem g_sz {xs : List V} {A : Prop} (h : xs.length ≤ sizeLine) (q : A) : xs.length ≤ sizeLine ∧ A := ⟨h, q⟩
theorem g_dnew {σ : L2.St} {H : Hp} {Q : VK} (q : ∀ p, H p = none → Q (.ref p) (upd H p (.dK []))) : tDNewK σ H Q := q
/-- {'k': v}, both written -/
theorem g_disp1 {σ : L2.St} {H : Hp} {Q : VK} {k : Str} {v : V} (q : ∀ p, H p = none → Q (.ref p) (upd H p (.dK [(Sum.inr k, v)]))) : tDisp [(tC (.str k), tC v)] σ H Q := by
  intro p hp
  refine ⟨upd_same, [(Sum.inr k, v)], rfl, Nat.le_of_ble_eq_true rfl, ?_⟩
  rw [upd_upd]
  exact q p hp
theorem ne_new {H : Hp} {a b : Addr} {o : HO} (h' : H b = none) (h : H a = some o) : a ≠ b := ne_of_none h h'
theorem atI_mem {xs : List V} {z : Int} (h0 : 0 ≤ z) (h1 : z < xs.length) : ∃ v ∈ xs, atI xs z = some v := by
  have hl : z.toNat < xs.length := by omega
  refine ⟨xs[z.toNat], List.getElem_mem hl, ?_⟩
  unfold atI ixN
  rw [if_pos h0, if_pos h1]
  show xs[z.toNat]? = _
  exact List.getElem?_eq_getElem hl
theorem atI_nat {α : Type} {xs : List α} {z : Int} (h0 : 0 ≤ z) (h1 : z < xs.length) : ∃ h : z.toNat < xs.length, atI xs z = some (xs[z.toNat]'h) := by
  have hl : z.toNat < xs.length := by omega
  refine ⟨hl, ?_⟩
  unfold atI ixN
  rw [if_pos h0, if_pos h1]
  exact List.getElem?_eq_getElem hl
theorem upd_keep {H : Hp} {a b : Addr} {o u : HO} (h' : H b = none) (h : H a = some o) : upd H b u a = some o := by
  rw [upd_ne (ne_of_none h h')]
  exact h
theorem mv_new {p q : Addr} {H0 H : Hp} {o : HO} (h : H q = none) (m : Mv p H0 H) : Mv p H0 (upd H q o) := m.trans (Mv.new h)
theorem ix_draw {K : PySem.W.Frag} {H : Hp} {l : Addr} {xs : List V} {z m : Int} (sq : H l = some (.lst xs)) (h0 : 0 ≤ z) (h1 : z < m) (hm : m = xs.length) : ∃ v ∈ xs, ∀ Q : VK, Q v H → rIxL K (.ref l) (.int z) H Q := by
  obtain ⟨v, hv, e⟩ := atI_mem h0 (by omega : z < xs.length)
  exact ⟨v, hv, fun Q q => g_ixL (Or.inl (Or.inl sq)) e q⟩
theorem g_nt {A B : Prop} (q : B) : if (!true) = true then A else B := by
  show if false = true then A else B
  rw [if_neg Bool.false_ne_true]
  exact q
theorem g_nf {A B : Prop} (q : A) : if (!false) = true then A else B := by
  show if true = true then A else B
  rw [if_pos rfl]
  exact q
theorem g_U {g : Int → V} {a : Int} {H : Hp} {Q : VK} (q : Q (g a) H) : rU g (.int a) H Q := ⟨a, rfl, q⟩
theorem ne_bag {H : Hp} {p q : Addr} {n : Nat} (h : H q = none) (B : Bg H p n) : q ≠ p := B.ne h
/-- two ways of one test on texts -/
theorem g_txt {x y : Str} {A B : Prop} (h1 : x = y → A) (h2 : x ≠ y → B) : if decide (V.str x = V.str y) = true then A else B := by
  by_cases e : x = y
  · exact g_yes (by rw [e]) (h1 e)
  · exact g_no (fun z => e (by cases z; rfl)) (h2 e)
theorem g_int2 {x y : Int} {A B : Prop} (h1 : x = y → A) (h2 : x ≠ y → B) : if decide (V.int x = V.int y) = true then A else B := by
  by_cases e : x = y
  · exact g_yes (by rw [e]) (h1 e)
  · exact g_no (fun z => e (by cases z; rfl)) (h2 e)

/-- a conditional expression by what both ways give -/
theorem g_cutIf {t : TT} {ta tb : TE} {σ : L2.St} {H : Hp} {Q : VK} (R : V → Hp → Prop) (h : ∀ Q : VK, (∀ v H', R v H' → Q v H') → tIf t ta tb σ H Q) (q : ∀ v H', R v H' → Q v H') : tIf t ta tb σ H Q := h Q q
theorem g_same {x : V} {A B : Prop} (q : B) : if (!decide (x = x)) = true then A else B := by
  rw [decide_eq_true rfl]
  exact g_nt q
theorem g_diff {x y : V} {A B : Prop} (h : x ≠ y) (q : A) : if (!decide (x = y)) = true then A else B := by
  rw [decide_eq_false h]
  exact g_nf q
theorem sq_same {K : PySem.W.Frag} {H H' : Hp} {a : Addr} {xs : List V} (s : Same H H') (h : SqL K H a xs) : SqL K H' a xs := s.seq h
end Jg
namespace Jg
open PySem PySem.Spec PyProof.Rows L2
/-! ### (l + r).replace(y, [z1, z2][i]) -/
def tReplIx (ta : TE) (m : Str) (tr : TE) (y z1 z2 : Str) (ti : TE) : TE := fun σ H Q => tOp rAddS ta (tC (.str m)) σ H fun a H1 => tr σ H1 fun b H2 => ∃ i j : Str, a = .str i ∧ b = .str j ∧ i.length + j.length ≤ 1000000 ∧
  ∀ (p : Addr) (o : Obj), H2 p = none → ti σ (upd H2 p (.frz o (.lst [.str z1, .str z2]))) fun w H3 => H3 p = some (.frz o (.lst [.str z1, .str z2])) ∧ ∃ k : Nat, w = .int (k : Int) ∧ k < 2 ∧
    ∀ z, (z = z1 ∨ z = z2) → Q (.str (Txt.replace (i ++ j) y z)) H3
theorem g_replIx {ta : TE} {m : Str} {tr : TE} {y z1 z2 : Str} {ti : TE} {σ : L2.St} {H : Hp} {Q : VK} (q : tOp rAddS ta (tC (.str m)) σ H fun a H1 => tr σ H1 fun b H2 => ∃ i j : Str, a = .str i ∧ b = .str j ∧ i.length + j.length ≤ 1000000 ∧
  ∀ (p : Addr) (o : Obj), H2 p = none → ti σ (upd H2 p (.frz o (.lst [.str z1, .str z2]))) fun w H3 => H3 p = some (.frz o (.lst [.str z1, .str z2])) ∧ ∃ k : Nat, w = .int (k : Int) ∧ k < 2 ∧
    ∀ z, (z = z1 ∨ z = z2) → Q (.str (Txt.replace (i ++ j) y z)) H3) : tReplIx ta m tr y z1 z2 ti σ H Q := q
/-- what the written part tells of the statics' space: no reader has booked a token -/
theorem noneBooked {K : PySem.W.Frag} {h : Heap} (kin : K.In h) (lim : h.NoLimit) (e : PySem.W.nsIn K cStatics sharingNotToldKey = some none) : NoneBooked h := by
  obtain ⟨mc, ns, _⟩ := lim
  refine ⟨mc, ns, ?_⟩
  obtain ⟨o, es, ep, ho, hd, _, look⟩ := ns
  unfold PySem.W.nsIn at e
  split at e
  case h_1 _ q =>
    have same := kin _ _ q
    rw [ho] at same
    cases same
    cases hd
    split at e
    case h_1 => cases e
    case h_2 he =>
      rw [← look]
      unfold nsFind findBy
      rw [← Array.find?_toList, he]
      rfl
  case h_2 => cases e
section
variable {X : Cx} {a r ei : Expr} {ta tr ti : TE} {m y z1 z2 : Str} {cm c j1 j2 : Nat} {cp c0 c1 c2 lp sp ap bp apos pos : Pos} {pins : List (Addr × Obj)} {s : Shared} {σ : L2.St} {H : Hp} {Q : VK}
/-- a + a written text: a token is out behind it -/
theorem run_addC (ha : PE X a ta) (I : L2.Inv X pins σ H s) (h : tOp rAddS ta (tC (.str m)) σ H Q) :
    wpAny (model X.prog X.w) X.A (eval (.BinOp a .Add (.Constant (.str m) cm cp) ap) X.env) (fun v s' => 1 ≤ s'.toks ∧ EP X pins σ Q v s') X.xe s := by
  refine wpAny_BinOp (thn (ha.run pins s σ H _ I h) ?_)
  rintro v s1 ⟨x, H1, I1, rx, q⟩
  refine Calls.Constant_str ?_
  refine wpAny_mono (PySem.wpAny_toks (op_addS pins _ σ H1 x (.str m) v _ Q (I1.tok _) rx ⟨_, rfl⟩ q)) ?_ (fun _ _ z => z.2)
  rintro u s2 ⟨le, e⟩
  exact ⟨Nat.le_trans (by omega : 1 ≤ s1.toks + 1) le, e⟩
theorem pe_replIx (ha : PE X a ta) (hr : PE X r tr) (hi : PE X ei ti) (l1 : z1.length ≤ 1) (l2 : z2.length ≤ 1)
    (nb : PySem.W.nsIn X.K cStatics sharingNotToldKey = some none) (hs : PlainIx ei)
    (hst : starEach [.Constant (.str y) c c0, .Subscript (.List [.Constant (.str z1) j1 c1, .Constant (.str z2) j2 c2] lp) ei sp] X.env =
      [(false, eval (.Constant (.str y) c c0) X.env), (false, eval (.Subscript (.List [.Constant (.str z1) j1 c1, .Constant (.str z2) j2 c2] lp) ei sp) X.env)] := by rfl)
    (hbase : attributeBase (.BinOp (.BinOp a .Add (.Constant (.str m) cm cp) ap) .Add r bp) "replace" X.env (eval (.BinOp (.BinOp a .Add (.Constant (.str m) cm cp) ap) .Add r bp) X.env) = eval (.BinOp (.BinOp a .Add (.Constant (.str m) cm cp) ap) .Add r bp) X.env := by rfl) (hline : (apos.endLine == pos.line) = true := by rfl) :
    PE X (.Call (.Attribute (.BinOp (.BinOp a .Add (.Constant (.str m) cm cp) ap) .Add r bp) "replace" apos) [.Constant (.str y) c c0, .Subscript (.List [.Constant (.str z1) j1 c1, .Constant (.str z2) j2 c2] lp) ei sp] [] pos) (tReplIx ta m tr y z1 z2 ti) := by
  constructor
  intro pins s σ H Q I h
  refine PySem.Call_method2 hbase hst hline (wpAny_BinOp (wpAny_mono (run_addC ha I h) ?_ (fun _ _ z => z)))
  rintro v s1 ⟨k1, av, H1, I1, ra, q1⟩
  refine wpAny_mono (PySem.wpAny_toks (hr.run pins s1 σ H1 _ I1 q1)) ?_ (fun _ _ z => z.2)
  rintro u s2 ⟨k2, bv, H2, I2, rb, i, j, rfl, rfl, len, q⟩
  obtain ⟨t, rfl⟩ := ra
  obtain ⟨t', rfl⟩ := rb
  have fit : i.length + j.length ≤ sizeLine := Nat.le_trans len (by decide)
  refine wpAny_mono (PySem.wpAny_toks (add_str (Q := fun v s' => ∃ t tk, v = Value.str (i ++ j) t ∧ s' = { s2 with toks := tk }) (fun t tk => ⟨t, tk, rfl, rfl⟩) fit)) ?_ (fun _ _ z => z.2)
  rintro w s3 ⟨k3, tw, tk, rfl, rfl⟩
  have pos3 : 1 ≤ tk := Nat.le_trans (Nat.le_trans k1 k2) k3
  refine ⟨"str", _, PySem.F.plainAttrs_str, PySem.F.slot_str_replace, PySem.F.type_str_replace, typeIs_str _ _ _, (fun _ e => nomatch e), Calls.callWith_builtin rfl (Calls.evalArgs_plain (Calls.spliced_cons ?_))⟩
  refine Calls.Constant_str (Calls.spliced_cons ?_)
  refine Subscript_ (wpAny_List_spliced ?_)
  show wpAny _ _ (spliced ((false, eval (.Constant (.str z1) j1 c1) X.env) :: backTo lp (starEach [.Constant (.str z2) j2 c2] X.env))) _ _ _
  refine Calls.spliced_cons (Calls.Constant_str ?_)
  show wpAny _ _ (spliced ((false, eval (.Constant (.str z2) j2 c2) X.env) :: backTo lp (starEach [] X.env))) _ _ _
  refine Calls.spliced_cons (Calls.Constant_str (Calls.spliced_nil ?_))
  have h2 : (2 : Nat) ≤ sizeLine := by decide
  refine ⟨h2, ?_⟩
  let o : Obj := { cls := .type "list", data := .seq #[.str z1 (tk + 1), .str z2 (tk + 1 + 1)] 0 }
  have fresh : H2 s2.heap.objs.size = none := I2.hok.fresh (Nat.le_refl _)
  have ok : ObjOk X.prog X.w (upd H2 s2.heap.objs.size (.frz o (.lst [.str z1, .str z2]))) (s2.heap.push o) s2.heap.objs.size (.frz o (.lst [.str z1, .str z2])) :=
    ⟨Heap.get?_push_size _ rfl, h2, [.str z1 _, .str z2 _], 0, .cons ⟨_, rfl⟩ (.cons ⟨_, rfl⟩ .nil), Heap.get?_push_size _ rfl⟩
  have I3 := I2.laid (a := s2.heap.objs.size) (t' := tk + 1 + 1 + 1) (fun b u e => Heap.get?_push_of_some _ e) (Nat.le_refl _) ok
  refine wpAny_mono (hi.run pins _ σ _ _ I3 (q _ o fresh)) ?_ (fun _ _ z => z)
  rintro iv s4 ⟨kv, H4, I4, r4, at4, k, rfl, hk, q4⟩
  obtain ⟨tki, rfl⟩ := r4
  obtain ⟨here, _⟩ := I4.hok _ _ at4
  have isl : s4.heap.IsList s2.heap.objs.size #[.str z1 (tk + 1), .str z2 (tk + 1 + 1)] := ⟨o, here, rfl, 0, rfl⟩
  have rep : ∀ (z : Str) (tz : Nat), z.length ≤ 1 → (z = z1 ∨ z = z2) → tz ≠ 0 → tk ≠ tz → wpAny (model X.prog X.w) X.A (spliced []) (fun vs s₁ => wpAny (model X.prog X.w) X.A (call (.builtin "str.replace") (.str (i ++ j) tw :: .str y tk :: .str z tz :: vs)) (EP X pins σ Q) X.xe s₁) X.xe s4 := by
    intro z tz lz ez nz dz
    refine Calls.spliced_nil ?_
    refine PySem.SC.replaceA (show tk ≠ 0 from Nat.pos_iff_ne_zero.mp pos3) nz dz ?_ (fun t' k => ⟨.str (Txt.replace (i ++ j) y z), H4, I4.tok k, ⟨t', rfl⟩, q4 z ez⟩) (noneBooked I4.kIn I4.nolimit nb)
    have el : (i ++ j).length = i.length + j.length := by rw [TL.len_tl, TL.tl_append, List.length_append, ← TL.len_tl, ← TL.len_tl]
    rw [el]
    have : (i.length + j.length + 1) * z.length ≤ (i.length + j.length + 1) * 1 := Nat.mul_le_mul_left _ lz
    omega
  have hkk : k = 0 ∨ k = 1 := by omega
  rcases hkk with rfl | rfl
  · exact item_listR isl (by decide) (by decide) rfl (rep z1 _ l1 (Or.inl rfl) (by omega) (by omega)) (hs _ _)
  · exact item_listR isl (by decide) (by decide) rfl (rep z2 _ l2 (Or.inr rfl) (by omega) (by omega)) (hs _ _)
end
end Jg
namespace Jg
open PySem PySem.Spec L2
/-! ### texts -/
/-- a text of at most n signs, each a sign -/
def Sg (z : Str) (n : Nat) : Prop := z.length ≤ n ∧ ∀ c ∈ TL.tl z, c < 1114112
theorem Sg.mono {z : Str} {n m : Nat} (h : Sg z n) (l : n ≤ m) : Sg z m := ⟨Nat.le_trans h.1 l, h.2⟩
theorem Sg.app {x y : Str} {n m : Nat} (a : Sg x n) (b : Sg y m) : Sg (x ++ y) (n + m) := by
  constructor
  · rw [TL.len_tl, TL.tl_append, List.length_append, ← TL.len_tl, ← TL.len_tl]
    exact Nat.add_le_add a.1 b.1
  · intro c hc
    rw [TL.tl_append] at hc
    rcases List.mem_append.mp hc with h | h
    · exact a.2 c h
    · exact b.2 c h
theorem Sg.cut {z : Str} {n : Nat} (h : Sg z n) (lo hi : Option Int) : Sg (cutS z lo hi) n :=
  ⟨Nat.le_trans (cutS_length z lo hi) h.1, fun c hc => h.2 c (List.mem_of_mem_drop (List.mem_of_mem_take hc))⟩
theorem Sg.of {z : Str} {n : Nat} (h : (decide (z.length ≤ n) && (TL.tl z).all (fun c => decide (c < 1114112))) = true) : Sg z n := by
  rw [Bool.and_eq_true, List.all_eq_true] at h
  exact ⟨of_decide_eq_true h.1, fun c hc => of_decide_eq_true (h.2 c hc)⟩
theorem Sg.sign {z : Str} {n : Nat} {k : Int} {c : Nat} (h : Sg z n) (e : atI z.cps.toList k = some c) : Sg ⟨#[c]⟩ 1 := by
  refine ⟨Nat.le_refl _, fun d hd => ?_⟩
  have : d = c := by simpa [TL.tl] using hd
  subst this
  refine h.2 d ?_
  unfold atI at e
  cases q : ixN z.cps.toList.length k with
  | none =>
    rw [q] at e
    cases e
  | some j =>
    rw [q] at e
    exact List.mem_of_getElem? e
theorem mem_joinL {S : List Nat} {c : Nat} : ∀ {ps : List (List Nat)}, c ∈ TL.joinL S ps → c ∈ S ∨ ∃ p ∈ ps, c ∈ p
  | [], h => by cases h
  | [p], h => Or.inr ⟨p, List.mem_singleton.mpr rfl, h⟩
  | p :: q :: r, h => by
    rcases List.mem_append.mp (show c ∈ p ++ (S ++ TL.joinL S (q :: r)) from h) with h | h
    · exact Or.inr ⟨p, List.mem_cons_self, h⟩
    · rcases List.mem_append.mp h with h | h
      · exact Or.inl h
      · rcases mem_joinL h with h | ⟨x, hx, h⟩
        · exact Or.inl h
        · exact Or.inr ⟨x, List.mem_cons_of_mem _ hx, h⟩
theorem joinL_mem {S : List Nat} {c : Nat} : ∀ {ps : List (List Nat)} {p : List Nat}, p ∈ ps → c ∈ p → c ∈ TL.joinL S ps
  | [], _, h, _ => by cases h
  | [x], p, h, hc => by
    rw [List.mem_singleton.mp h] at hc
    exact hc
  | x :: y :: r, p, h, hc => by
    show c ∈ x ++ (S ++ TL.joinL S (y :: r))
    rcases List.mem_cons.mp h with e | h
    · rw [e] at hc
      exact List.mem_append_left _ hc
    · exact List.mem_append_right _ (List.mem_append_right _ (joinL_mem h hc))
theorem tl_tjoin (y : Str) (ps : List Str) : TL.tl (Txt.join y ps) = TL.joinL (TL.tl y) (ps.map TL.tl) := by
  rw [TL.join_eq, TL.tl_join]
theorem joinL_len {S : List Nat} {n : Nat} (hS : S.length ≤ 1) : ∀ {ps : List (List Nat)}, (∀ p ∈ ps, p.length ≤ n) → (TL.joinL S ps).length ≤ ps.length * (n + 1)
  | [], _ => Nat.zero_le _
  | [p], h => by
    have := h p (List.mem_singleton.mpr rfl)
    show p.length ≤ 1 * (n + 1)
    omega
  | p :: q :: r, h => by
    have h1 := h p List.mem_cons_self
    have h2 := joinL_len (S := S) hS (ps := q :: r) (fun x hx => h x (List.mem_cons_of_mem _ hx))
    show (p ++ (S ++ TL.joinL S (q :: r))).length ≤ (q :: r).length.succ * (n + 1)
    rw [List.length_append, List.length_append, Nat.succ_mul]
    omega
/-- joined texts -/
theorem Sg.join {y : Str} {ps : List Str} {n k : Nat} (hy : Sg y 1) (hl : ps.length ≤ k) (h : ∀ p ∈ ps, Sg p n) : Sg (Txt.join y ps) (k * (n + 1)) := by
  constructor
  · rw [TL.len_tl, tl_tjoin]
    have l := joinL_len (S := TL.tl y) (n := n) (ps := ps.map TL.tl) (by rw [← TL.len_tl]; exact hy.1) (fun p hp => by
      obtain ⟨z, hz, rfl⟩ := List.mem_map.mp hp
      rw [← TL.len_tl]
      exact (h z hz).1)
    rw [List.length_map] at l
    exact Nat.le_trans l (Nat.mul_le_mul_right _ hl)
  · intro c hc
    rw [tl_tjoin] at hc
    rcases mem_joinL hc with hc | ⟨p, hp, hc⟩
    · exact hy.2 c hc
    · obtain ⟨z, hz, rfl⟩ := List.mem_map.mp hp
      exact (h z hz).2 c hc
/-- the parts of a text -/
theorem Sg.split {z : Str} {n m : Nat} (h : Sg z n) (hm : m < 256) : ∀ p ∈ Txt.split z ⟨#[m]⟩, Sg p n := by
  intro p hp
  have e := StrLaws.join_split z ⟨#[m]⟩
  constructor
  · exact Nat.le_trans (PyProof.Rows.part_short hp) h.1
  · intro c hc
    refine h.2 c ?_
    rw [← e, TL.tl_join]
    exact joinL_mem (List.mem_map.mpr ⟨p, hp, rfl⟩) hc

def rMulS : R2 := fun x y H Q => ∃ z n, x = .str z ∧ y = .int n ∧ MulOk z n ∧ Q (.str (Txt.mul z n)) H
theorem op_mulS {X : Cx} : OpR X (binaryOp .Mult) rMulS := by
  intro pins s σ H x y v u Q I rx ry h
  obtain ⟨z, n, rfl, rfl, ok, q⟩ := h
  obtain ⟨t, rfl⟩ := rx
  obtain ⟨t', rfl⟩ := ry
  exact PySem.SB.mul ok fun t' k => ⟨.str (Txt.mul z n), H, I.tok k, ⟨t', rfl⟩, q⟩
theorem g_mulS {z : Str} {n : Int} {H : Hp} {Q : VK} (ok : MulOk z n) (q : Q (.str (Txt.mul z n)) H) : rMulS (.str z) (.int n) H Q := ⟨z, n, rfl, rfl, ok, q⟩
theorem strs_of {P : Str → Prop} : ∀ {ys : List V}, (∀ y ∈ ys, ∃ z, y = .str z ∧ P z) → ∃ ws : List Str, ys = ws.map V.str ∧ ∀ z ∈ ws, P z
  | [], _ => ⟨[], rfl, by simp⟩
  | y :: ys, h => by
    obtain ⟨z, rfl, hz⟩ := h y List.mem_cons_self
    obtain ⟨ws, e, hw⟩ := strs_of (ys := ys) fun x hx => h x (List.mem_cons_of_mem _ hx)
    refine ⟨z :: ws, by rw [e]; rfl, ?_⟩
    intro x hx
    rcases List.mem_cons.mp hx with e | hx
    · rw [e]
      exact hz
    · exact hw x hx
theorem sum_le {n : Nat} : ∀ {ws : List Str}, (∀ z ∈ ws, z.length ≤ n) → (ws.map (·.length)).sum ≤ ws.length * n
  | [], _ => Nat.zero_le _
  | z :: ws, h => by
    have h1 := h z List.mem_cons_self
    have h2 := sum_le (ws := ws) fun x hx => h x (List.mem_cons_of_mem _ hx)
    show z.length + (ws.map (·.length)).sum ≤ (ws.length + 1) * n
    rw [Nat.succ_mul]
    omega
theorem cut_len (z : Str) (k : Nat) : (cutS z none (some (k : Int))).length ≤ k := by
  unfold cutS
  rw [TL.len_tl, TL.tl_mk, HT.sIx_none, HT.sIx_nat, List.length_take]
  omega
theorem joinL_len1 {S : List Nat} (hS : S.length ≤ 1) : ∀ ps : List (List Nat), (TL.joinL S ps).length ≤ (ps.map (·.length)).sum + ps.length
  | [] => Nat.zero_le _
  | [p] => by
    show p.length ≤ [p.length].sum + 1
    simp <;> omega
  | p :: q :: r => by
    have h2 := joinL_len1 hS (q :: r)
    show (p ++ (S ++ TL.joinL S (q :: r))).length ≤ p.length + ((q :: r).map (·.length)).sum + (q :: r).length.succ
    rw [List.length_append, List.length_append]
    omega
/-- one sign for another one -/
theorem Sg.repl {x z : Str} {n c : Nat} (h : Sg x n) (hz : Sg z 1) (hc : c < 256) : Sg (Txt.replace x ⟨#[c]⟩ z) (n + 1) := by
  rw [StrLaws.replace_one, ← TL.join_eq]
  constructor
  · rw [TL.len_tl, tl_tjoin]
    have l := joinL_len1 (S := TL.tl z) (by rw [← TL.len_tl]; exact hz.1) ((Txt.split x ⟨#[c]⟩).map TL.tl)
    have w := PyProof.Rows.split_weight x ⟨#[c]⟩ (Nat.le_refl 1)
    have e : ((Txt.split x ⟨#[c]⟩).map TL.tl).map (·.length) = (Txt.split x ⟨#[c]⟩).map (·.length) := by
      rw [List.map_map]
      exact List.map_congr_left fun y _ => (TL.len_tl y).symm
    rw [e, List.length_map] at l
    have := h.1
    omega
  · intro d hd
    rw [tl_tjoin] at hd
    rcases mem_joinL hd with hd | ⟨p, hp, hd⟩
    · exact hz.2 d hd
    · obtain ⟨y, hy, rfl⟩ := List.mem_map.mp hp
      exact (h.split hc y hy).2 d hd
end Jg
namespace JgX
open PySem PySem.W PySem.Calls PyProof.Rows
/-! ### an own exception whose __init__ says super().__init__('..') and stores what it is given -/
open Builtin Builtin.ObjectAttr in
/-- what is said of a base's __init__ -/
structure IniFacts (B i : String) : Prop where
  slot : Slot B "__init__" i
  entry : entryFor table i = some Builtin.«BaseException.__init__»
  kind : builtinKind i = some .slot
  row : Manifest.signature? i = some ⟨.positional, "*", B, .self, [⟨"args", .varPos, false⟩]⟩
  star : (B != "*") = true
theorem ini_of {B n i : String} (F : ExcCallFacts B n i) : IniFacts B i := ⟨F.init, F.initEntry, F.initKind, F.initRow, F.noStar⟩
theorem ini_key : IniFacts "KeyError" "KeyError.__init__" where
  slot := .of (owner := "KeyError") (n := "__init__")
    (by
      rw [typeLookup_type, builtinLookup_eq_fast]
      kernel_rfl)
    (by decide +kernel)
    (by decide +kernel)
    (by decide +kernel)
    (by
      first
        | exact .inl (by decide +kernel)
        | exact .inr (by decide +kernel))
    (by
      rw [isSubtype_type]
      kernel_rfl)
  entry := entryFor_alias (id' := "BaseException.__init__")
    (by
      rw [fastTable_eq_tree]
      kernel_rfl)
    (by
      first
        | rfl
        | decide +kernel)
    (by decide +kernel)
    (by
      rw [fastTable_eq_tree]
      kernel_rfl)
  kind := by kernel_rfl
  row := by kernel_rfl
  star := by decide +kernel
/-- what the base brings -/
structure XBase (B newId i : String) (bmB : List Value) : Prop where
  ini : IniFacts B i
  kf : KxsFacts B i
  pass : ∀ me : Value, refuseLoop me "__setattr__" bmB = pure ()
  obj : bmB.contains (.type "object") = true
theorem xValue : XBase "ValueError" "ValueError.__new__" "ValueError.__init__" [.type "ValueError", .type "Exception", .type "BaseException", .type "object"] :=
  ⟨ini_of F.excBase_ValueError.toExcCallFacts, kxs_ValueError, F.store_ValueError.passes, by decide +kernel⟩
theorem xLookup : XBase "LookupError" "LookupError.__new__" "LookupError.__init__" [.type "LookupError", .type "Exception", .type "BaseException", .type "object"] :=
  ⟨ini_of F.excBase_LookupError.toExcCallFacts, kxs_LookupError, F.store_LookupError.passes, by decide +kernel⟩
theorem xKey : XBase "KeyError" "LookupError.__new__" "KeyError.__init__" [.type "KeyError", .type "LookupError", .type "Exception", .type "BaseException", .type "object"] :=
  ⟨ini_key, ⟨by show builtinType _ = _; rw [builtinType_eq_fast]; kernel_rfl, by first | kernel_rfl | rfl⟩, fun me => by kernel_rfl, by decide +kernel⟩
section
variable {M : Model} {A : Around} {E : Value → Shared → Prop} {h : Heap} {g : Array GenState} {d : Drawn} {t : Nat} {os : OsState}
theorem ini_check {B i newId : String} (F : IniFacts B i) {nm q : Str} {C N e : Addr} {oe : Obj} {bs bm : List Value} {hdct : Bool} {sn : List Str} {sub : List Value} {ab : Bool} {col : Option Bool} {dd : Option Addr} {k0 k1 k2 k3 k5 : Option Value} {rest : List Value} {Q : Unit → Shared → Prop}
    (lk : h.get? C = some (excClassObj nm q C N bs bm hdct sn sub ab col dd k0 k1 k2 k3 k5 newId)) (he : h.get? e = some oe) (oc : oe.cls = .ref C) (z : Q () ⟨h, g, d, t, os⟩) :
    wpAny M A (checkBoundCall i ⟨.ref e :: rest, []⟩) Q E ⟨h, g, d, t, os⟩ := by
  have star := F.star
  simp only [checkBoundCall, F.kind, F.row]
  repeat (first
    | (with_reducible refine wpAny_loadPart_at he ?_; rw [oc])
    | with_reducible refine wpAny_loadPart_at lk ?_
    | wp_step)
  refine wpAny_onRaise ?_
  have free : ∀ (a b : String) (n : Nat), Bind.check ⟨.positional, "*", B, .self, [⟨"args", .varPos, false⟩]⟩ a b n (({ pos := Value.ref e :: rest } : Args).kw.map fun x => x.fst) = pure () := fun a b n => check_star_args _ _ _ _ _ _
  rw [free]
  exact wpAny_pure z
end
open Builtin Builtin.ObjectAttr
section
variable {prog : Program} {w : World} {A : Around} {E : Value → Shared → Prop} {R : Result → Shared → Prop} {hp : Heap} {g : Array GenState} {d : Drawn} {t : Nat} {os : OsState}
variable {B newId i : String} {bmB : List Value} {K : Frag} {C : Addr}
variable {nm q : Str} {N : Addr} {bs bm : List Value} {hdct : Bool} {sn : List Str} {sub : List Value} {ab : Bool} {col : Option Bool} {dd : Option Addr} {k0 k1 k2 k3 k5 : Option Value}
/-- the base's __init__, bound to the fresh exception at e -/
theorem call_wrap (X : XBase B newId i bmB) {u e t0 : Addr} {more : List Value} {Q : Value → Shared → Prop} (hC : hp.get? C = some (excClassObj nm q C N bs bm hdct sn sub ab col dd k0 k1 k2 k3 k5 newId))
    (he : hp.get? e = some (excObj C t0 none .none)) (hu : hp.get? u = some (kxs_mw i e)) (len : more.length ≤ sizeLine)
    (hq : ∀ h', (∀ b o, b ≠ e → hp.get? b = some o → h'.get? b = some o) → h'.get? e = some (excObj C hp.objs.size none .none) → h'.get? hp.objs.size = some (excTup more) → Q .none ⟨h', g, d, t, os⟩) :
    wpAny (model prog w) A (call (.ref u) more) Q E ⟨hp, g, d, t, os⟩ := by
  refine wpAny_call (codeAny_of_tree ?_)
  show wpAny _ A.in1 (callAny (.ref u) ⟨more, []⟩) _ _ _
  simp only [callAny]
  refine wpAny_bind (wpAny_load hu ?_)
  have kind : (Value.type "method-wrapper" == Value.type "method" || Value.type "method-wrapper" == Value.type "builtin_function_or_method" || Value.type "method-wrapper" == Value.type "method-wrapper") = true := by decide
  simp only [kxs_mw, kind, if_true]
  refine KFB.if_so (by decide) ?_
  refine wpAny_bind (ini_check X.ini hC he rfl ?_)
  refine wpAny_bind (wpAny_pure (wpAny_pure ⟨plainId_quiet X.ini.slot.plain _, codeAny_builtin X.ini.entry ?_⟩))
  exact exc_init_tree (cls := .ref C) (t0 := t0) (dv := none) (c2 := .none) (c3 := .none) (b4 := .bool false) he len hq
open Builtin Builtin.ObjectAttr in
/-- me.name = v, the first one -/
theorem set_first (X : XBase B newId i bmB) {name : Str} {v : Value} {e : Addr} {fv : Array Value} {cd : ClassData} {Q : Unit → Shared → Prop} (kin : K.In hp) (he : hp.get? e = some { cls := .ref C, data := .fields fv })
    (hcd : clsIn K C = some cd) (hm : cd.mro = .ref C :: bm) (ht : excTail bmB bm = true) (hh : cd.hasDict = true) (no : findIn K (.ref C) name = some none)
    (sa : findIn K (.ref C) "__setattr__" = some (some (.builtin "object.__setattr__")))
    (hq : ∀ h' tk dx, (∀ b o, b ≠ e → hp.get? b = some o → h'.get? b = some o) → hp.objs.size ≤ dx → dx ≠ e → h'.get? e = some { cls := .ref C, dict := some dx, data := .fields fv } →
      h'.Ns1 dx (fun y => if y = name then some v else none) → Q () ⟨h', g, d, tk, os⟩) :
    wpAny (model prog w) A (setAttr (.ref e) name v) Q E ⟨hp, g, d, t, os⟩ := by
  have at_e : InstAt hp e { cls := .ref C, data := .fields fv } C none := ⟨he, rfl, rfl, trivial⟩
  refine set_plain kin at_e sa ?_
  have SO := F.store_object
  have away : e ≠ hp.objs.size := Nat.ne_of_lt (Heap.lt_size he)
  have isObj : (Value.ref C :: bm).contains (.type "object") = true := by
    rw [List.contains_cons, excTail_contains "object" bm ht, X.obj, Bool.or_true]
  have inMro : mroIn K C (.type "object") = some true := by
    unfold mroIn
    rw [hcd, Option.bind_some, hm, if_neg (show ¬ (List.isEmpty (Value.ref C :: bm) = true) from Bool.false_ne_true), isObj]
  have isIn : Looks (model prog w) hp (isInstance (.ref e) (.type "object")) true := at_e.type.andThen (looks_mroIn kin inMro)
  refine codeAny_call_builtin SO.slot.plain SO.entry (@check_slot (model prog w) _ _ _ "object.__setattr__" "object" "__setattr__" (.ref e) [.str name t, v] [] _ SO.kind SO.split isIn (SO.args (.ref e) (.str name t) v) ?_)
  have lm : Looks (model prog w) hp (mroOf (.ref C)) cd.mro := (looks_clsIn kin hcd).andThen .now
  have lt : Looks (model prog w) hp (storeTaker? none) none := .now
  have lc : Looks (model prog w) hp (classData C) cd := looks_clsIn kin hcd
  have free : refuseLoop (.ref e) "__setattr__" cd.mro = pure () := by
    rw [hm, refuseLoop_ref]
    exact excTail_pass _ (X.pass _) bm ht
  rw [osa_eq, refuse_eq]
  refine wpAny_bind (wpAny_bind (at_e.type.at (wpAny_bind (lm.at ?_))))
  rw [free]
  refine wpAny_pure (wpAny_bind (at_e.type.at (wpAny_bind ((looks_findIn kin no).at (wpAny_bind (lt.at ?_))))))
  show wpAny _ _ (storeInOwnDict (.ref e) (.ref C) (.str name t) name v false) _ _ _
  obtain ⟨cn, cb, cm, cns, cq, hd, csn, csb, cab, ccol, cdel⟩ := cd
  dsimp only at hh
  subst hh
  unfold storeInOwnDict ownDictForStores
  repeat (first
    | with_reducible refine HandSPX.store_in_new ?_ ?_
    | with_reducible refine wpAny_loadPart_at he ?_
    | with_reducible refine lc.at ?_
    | wp_step)
  · exact ⟨_, #[], _, (Heap.get?_update_ne _ _ _ _ away.symm).trans (Heap.get?_push_at rfl rfl), rfl, fun e he => absurd he (by simp), fun _ => rfl⟩
  · intro h' tk hn' hs
    have later : (hp.push { cls := .type "dict", data := .dict #[] }).get? e = some { cls := .ref C, data := .fields fv } := Heap.get?_push_of_some _ he
    refine hq h' tk hp.objs.size ?_ (Nat.le_refl _) away.symm ?_ hn'
    · intro b o hb ho
      exact (hs.2 b (Nat.ne_of_lt (Heap.lt_size ho))).trans ((Heap.get?_update_ne _ _ _ _ hb).trans (Heap.get?_push_of_some _ ho))
    · exact (hs.2 e away).trans (Heap.get?_update_self _ later rfl)
end
end JgX
namespace JgX
open PySem PySem.W PySem.Calls PyProof.Rows PySem.Spec L2
/-! ### as what L2 tracks -/
theorem excLaid {P : Program} {w : World} {H : Hp} {hp h' : Heap} {fs : List Addr} {a C dx : Addr} {f : Str} {y : V} {u : Value} (hok : HOk P w H hp) (e : H a = some (exo a C none)) (ry : RelV y u)
    (dn : hp.objs.size ≤ dx) (dne : dx ≠ a) (k : ∀ b o, b ≠ a → hp.get? b = some o → h'.get? b = some o) {t1 : Addr} (hx : h'.get? a = some ({ cls := .ref C, dict := some dx, data := .fields #[.ref t1, .none, .none, .none, .bool false, .none] } : Obj))
    (hn : h'.Ns1 dx (fun z => if z = f then some u else none)) :
    Un fs [] H (upd (upd H dx (exd dx [(f, y)])) a (exo a C (some dx))) hp h' ∧ HOk P w (upd (upd H dx (exd dx [(f, y)])) a (exo a C (some dx))) h' := by
  have hnd : H dx = none := hok.fresh dn
  have nd : ∀ {b : Addr} {o : Obj}, hp.get? b = some o → b ≠ dx := fun {b o} q => Nat.ne_of_lt (Nat.lt_of_lt_of_le (Heap.lt_size q) dn)
  have na : ∀ {b : Addr}, H b = none → b ≠ a := fun {b} n z => by
    rw [z, e] at n
    cases n
  refine ⟨⟨fun b o q n _ _ => k b o (na n) q, fun b o q n _ _ => ⟨o.slots, k b o (na n) q⟩, fun b o q n _ => ?_, fun b o q _ => ?_, fun b xs q => ?_, fun b o v q => ?_, fun b ps q => ⟨#[], ?_⟩⟩, fun b o q => ?_⟩
  · rw [upd_ne (na n), upd_ne (nd q)]; exact n
  · by_cases hb : b = a
    · exact ⟨_, by rw [hb]; exact hx⟩
    · exact ⟨o, k b o hb q⟩
  · rw [upd_ne (at_ne e q exo_tup), upd_ne (ne_of_none q hnd)]; exact q
  · rw [upd_ne (at_ne e q exo_frz), upd_ne (ne_of_none q hnd)]; exact q
  · rw [upd_ne (at_ne e q exo_tbl), upd_ne (ne_of_none q hnd), q]; simp
  by_cases hb : b = a
  · subst hb
    rw [upd_same] at q
    cases q
    exact exo_ok hx
  rw [upd_ne hb] at q
  by_cases hd : b = dx
  · subst hd
    rw [upd_same] at q
    cases q
    exact exd_ok hn (relO_put (fs := []) ry fun g => True.intro)
  rw [upd_ne hd] at q
  refine (hok b o q).stay (fun c v hc z => k c v ?_ z) (fun c hc => by rw [upd_ne (at_ne e hc exo_own), upd_ne (ne_of_none hc hnd)]; exact hc) (fun c xs hc => by rw [upd_ne (at_ne e hc exo_tup), upd_ne (ne_of_none hc hnd)]; exact hc)
  rcases hc with hc | hc
  · rw [hc]
    exact hb
  · exact at_ne e hc exo_own

/-- what the written part says of such a class -/
structure XC (K : PySem.W.Frag) (C : Addr) (B newId i : String) (bmB : List Value) : Prop where
  cls : ∃ nm q N bs bm sn sub ab col dd k0 k1 k2 k3 k5, K.lookup C = some (excClassObj nm q C N bs bm true sn sub ab col dd k0 k1 k2 k3 k5 newId) ∧ excTail bmB bm = true
  sa : PySem.W.findIn K (.ref C) "__setattr__" = some (some (.builtin "object.__setattr__"))
  exC : PySem.W.subIn K (.ref C) (.type "BaseException") = some true
  tyC : PySem.W.typeIn K (.ref C) = some (.type "type")
  kC : PySem.W.keepIn K (.ref C) = true
  sup : PySem.W.ks_superIn K C C "__init__" = some (some (.builtin i))
  subB : PySem.W.subIn K (.ref C) (.type B) = some true
/-- its own __init__, as it stands in the written part -/
structure XFn (P : Program) (K : PySem.W.Frag) (C fI : Addr) (fd : FuncData) (qual : Str) (params : Arguments) (body : List Stmt) (scope : Scope) : Prop where
  ex : ∃ (nm : Str) (cc cda : Addr) (oc kV doc pm ct ccl cl : Value) (od an cdd cld : Option Addr) (osl ccs csl : Array (Option Value)) (vs : Array Value) (file : Str) (tf : Tok),
    fd = PySem.W.ksFn nm qual params body scope .none kV doc pm an (.ref cda) ct cc ∧ K.lookup fI = some ⟨oc, od, .func fd, osl⟩ ∧ PySem.W.codeIn K (.ref cda) qual = true ∧
    K.lookup cda = some ⟨ccl, cdd, .fields vs, ccs⟩ ∧ vs[2]? = some (.str file tf) ∧ ((P.main.file : Str) == file) = true ∧ K.lookup cc = some ⟨cl, cld, .cell (some (.ref C)), csl⟩
  iC : PySem.W.findIn K (.ref C) "__init__" = some (some (.ref fI))
  tI : PySem.W.typeIn K (.ref fI) = some (.type "function")
end JgX
namespace JgX
open PySem PySem.W PySem.Calls PyProof.Rows PySem.Spec L2
section
variable {P : Program} {w : World} {K : Frag} {mg : Str → Option Value} {base : Heap} {CX : CXT} {k : Nat} {B newId i : String} {bmB : List Value} {C fI : Addr} {fd : FuncData} {qual f par text : Str} {params : Arguments} {scope : Scope}
  {p0 p1 p2 p3 p4 p5 p6 p7 p8 : Pos} {j : Nat}
abbrev xBody (text f par : Str) (j : Nat) (p0 p1 p2 p3 p4 p5 p6 p7 p8 : Pos) : List Stmt :=
  [.Expr (.Call (.Attribute (.Call (.Name "super" p0) [] [] p1) "__init__" p2) [.Constant (.str text) j p3] [] p4) p4, .Assign [.Attribute (.Name "self" p5) f p6] (.Name par p7) p8]
/-- what __init__ promises: the exception gets its dict, with what was handed in under f -/
def xInit (C : Addr) (f : Str) : Sp := fun vs H Q _ => ∃ a y, vs = [.ref a, y] ∧ H a = some (exo a C none) ∧ ∀ dx, H dx = none → dx ≠ a → Q .non (upd (upd H dx (exd dx [(f, y)])) a (exo a C (some dx)))
theorem init_fn (X : XBase B newId i bmB) (T : XC K C B newId i bmB) (S : XFn P K C fI fd qual params (xBody text f par j p0 p1 p2 p3 p4 p5 p6 p7 p8) scope) (nf : findIn K (.ref C) f = some none)
    (opq : nsIn K cStatics "thirdparty.any" = some none) (msup : mg "super" = none) (htop : (P.main.scope.names.lookup ("super" : Str)).isSome = false)
    (hks : scope.names.lookup ("super" : Str) = some .globalImplicit) (hkc : scope.names.lookup ("__class__" : Str) = some .free) (hkS : scope.names.lookup ("self" : Str) = some .local) (hkP : scope.names.lookup par = some .local)
    (hk : scope.kind = .function) (hcell : ∀ x ∈ scope.names, x.2 ≠ .cell) (hco : scope.isCoroutine = false) (hgen : scope.isGenerator = false)
    (hpar : ∃ ar, (params.posonlyargs ++ params.args).head? = some ar ∧ ar.arg = ("self" : Str)) (hps : par ≠ ("self" : Str)) (hpd : (par == ("__debug__" : Str)) = false)
    (hev : ∀ en : Env, ∃ pl : Sem Bool, eval (.Call (.Attribute (.Call (.Name "super" p0) [] [] p1) "__init__" p2) [.Constant (.str text) j p3] [] p4) en = (do
      let ov ← attributeBase (.Call (.Name "super" p0) [] [] p1) "__init__" en (eval (.Call (.Name "super" p0) [] [] p1) en)
      standAt p2.atName
      let (f, first) ← holding [ov] (getMethod ov "__init__" pl)
      callWith p4 f first (backTo p4 (starEach [.Constant (.str text) j p3] en)) []))
    (hsx : ∀ en : Env, swapsWith (.Call (.Attribute (.Call (.Name "super" p0) [] [] p1) "__init__" p2) [.Constant (.str text) j p3] [] p4) none p4.line en = pure false)
    (hsw : ∀ env : Env, swapsWith (.Name par p7) (some (.Attribute (.Name "self" p5) f p6)) p8.line env = pure false) :
    FnOk P w K mg base CX (k + 1) fI fd [("self" : Str), par] (xInit C f) := by
  refine ⟨fun vs H Q E ⟨a, y, e, _⟩ => by rw [e]; rfl, fun A outer s H args us vs Q E room env bnd rel want => ?_⟩
  obtain ⟨a, y, rfl, ea, q⟩ := want
  obtain ⟨nm, cc, cda, oc, kV, doc, pm, ct, ccl, cl, od, an, cdd, cld, osl, ccs, csl, vs', file, tf, rfl, lk, hcd, lcd, hv2, hfile, lcc⟩ := S.ex
  obtain ⟨nmC, qC, NC, bsC, bmC, snC, sub, ab, col, dd, k0, k1, k2, k3, k5, hC, htail⟩ := T.cls
  obtain ⟨ar, har, harn⟩ := hpar
  cases rel with
  | @cons _ u0 _ ur ra rw' =>
  cases rw' with
  | @cons _ u _ ur' ru rz =>
  cases rz
  obtain rfl : u0 = Value.ref a := ra
  have bk : ∀ b o, base.get? b = some o → s.heap.get? b = some o := fun b o e => (env.bs b o e).1
  have kin : K.In s.heap := env.mod.kin.keeps bk
  obtain ⟨t1, hea⟩ := exo_at env.hok ea
  have clsC : clsIn K C = some { name := nmC, bases := bsC, mro := .ref C :: bmC, ns := NC, qualname := qC, hasDict := true, slotNames := snC, subclasses := sub, abstract := ab, collection := col, hasDel := false } := by
    unfold clsIn; rw [hC] <;> rfl
  have hsub : mroIn K C (.ref C) = some true := by
    unfold mroIn
    rw [clsC, Option.bind_some, if_neg (show ¬ (List.isEmpty (Value.ref C :: bmC) = true) from Bool.false_ne_true)]
    simp
  -- the heap without the exception
  have bh : ∀ b o, base.get? b = some o → (s.heap.hide a).get? b = some o := fun b o e =>
    (Heap.hide_ne s.heap fun z => by have n := (env.bs b o e).2; rw [z, ea] at n; cases n).trans (bk b o e)
  have kinH : K.In (s.heap.hide a) := env.mod.kin.keeps bh
  refine ks_codeAny_call_defAt (fd := ksFn nm qual params _ scope .none kV doc pm an (.ref cda) ct cc) (body := xBody text f par j p0 p1 p2 p3 p4 p5 p6 p7 p8) (binds := [(("self" : Str), Value.ref a), (par, u)]) room.depth (kin _ _ lk) rfl
    (env.mod.nolimit.keeps bk) (codeRec_of kin hcd) rfl bnd hcell (fun x hx => ?_) (fun h₁ hns hk₁ => ?_) hco hgen hk
  · rcases List.mem_cons.mp hx with rfl | hx
    · exact hkS
    · rcases List.mem_cons.mp hx with rfl | hx
      · exact hkP
      · cases hx
  have F1 : Fr (s.heap.hide a) s.heap.objs.size h₁ (fun y => [(("self" : Str), Value.ref a), (par, u)].reverse.lookup y) :=
    ⟨hns, fun b o e => hk₁ b o (Heap.of_hide e), Nat.le_of_eq (Heap.hide_size s.heap a)⟩
  have N1 : News (s.heap.hide a) s.heap.objs.size h₁ [(a, excObj C t1 none .none)] := fun p hp => by
    rcases List.mem_cons.mp hp with rfl | hp
    · exact ⟨hk₁ _ _ hea, Nat.ne_of_lt (Heap.lt_size hea), Heap.hide_self s.heap a⟩
    · cases hp
  have mself : (fun y => [(("self" : Str), Value.ref a), (par, u)].reverse.lookup y) ("self" : Str) = some (.ref a) := by
    have hb : (("self" : Str) == par) = false := by
      rw [beq_eq_false_iff_ne]; exact fun z => hps z.symm
    show List.lookup ("self" : Str) [(par, u), (("self" : Str), Value.ref a)] = _
    rw [List.lookup_cons, hb]
    simp [List.lookup_cons]
  have mpar : (fun y => [(("self" : Str), Value.ref a), (par, u)].reverse.lookup y) par = some u := by
    show List.lookup par [(par, u), (("self" : Str), Value.ref a)] = _
    simp [List.lookup_cons]
  have neA : ∀ {b : Addr} {o : Obj}, (s.heap.hide a).get? b = some o → b ≠ a := fun {b o} e z => by
    rw [z, Heap.hide_self] at e
    cases e
  obtain ⟨mb, hmb, hmbB⟩ := env.mod.blt
  have keep1 : ∀ b o, base.get? b = some o → h₁.get? b = some o := fun b o e => F1.keep b o (bh b o e)
  have kin1 : K.In h₁ := env.mod.kin.keeps keep1
  obtain ⟨pl, hev⟩ := hev (callEnv (ksFn nm qual params (xBody text f par j p0 p1 p2 p3 p4 p5 p6 p7 p8) scope .none kV doc pm an (.ref cda) ct cc) s.heap.objs.size fI)
  refine ks_wpAt_execs_cons (ks_wpAt_Expr_any (hi := by show (scope.kind == .module && _) = false; rw [hk]; rfl) (hs := hsx _) (ks_wpAt_MethodCall (pl := pl) (he := hev) (ks_wpAt_super_base (f := fI) (cc := cda) (ar := ar) (file := file) (tf := tf) hks hkc rfl rfl (kin1 _ _ lk) rfl har rfl (kin1 _ _ lcd) rfl hv2 hfile htop ?_)))
  refine ks_loadName_global hk hks (loadGlobal_builtin (mb := mb) (env.mod.glob.keeps keep1) msup (hmb.keeps keep1) ((hmbB _ (by decide)).trans (show bootBuiltins "super" = some (.type "super") by decide +kernel)) ⟨rfl, ?_⟩)
  refine wpAny_loadName_free hk hkc rfl ⟨_, kin1 _ _ lcc, rfl⟩ ?_
  rw [harn]
  refine wpAny_loadName_local hk hkS hns mself ?_
  refine ks_wpAny_isType_cls (kin1 _ _ hC) rfl ⟨rfl, ?_⟩
  refine ks_wpAny_call_super (kin1 _ _ hC) rfl (hk₁ _ _ hea) rfl (fun c z => by cases z) (looks_mroIn kin1 hsub) (fun h2 e2 keep2 => ?_)
  obtain ⟨F2, N2, l2⟩ := ks_newsPush (s := ⟨h₁, s.gens, s.drawn, s.toks + 2, s.os⟩) F1 N1 rfl e2 keep2
  refine kxs_method X.kf F2 kinH N2 (so := h₁.objs.size) (x := a) (C := C) (D := C) (by simp) (InstAt.of_exc0 (t := t1) (c2 := .none) N2 (by simp)) opq T.sup T.subB (by decide) (fun q3 h3 F3 N3 l3 => ?_)
  refine kxs_callWith1 (i := i) (x := a) N3 (by simp) (spliced_more (wpAny_Constant_str (spliced_none ⟨kxs_at N3 (by simp), ?_⟩)))
  have in3 : K.In h3 := kinH.keeps F3.keep
  refine call_wrap X (e := a) (t0 := t1) (in3 _ _ hC) (N3 (a, excObj C t1 none .none) (by simp)).1 (N3 (q3, kxs_mw i a) (by simp)).1 (by rw [sizeLine_eq]; simp) (fun h4 keep4 he4 _ => ?_)
  obtain ⟨oL, esL, epL, hL, restL⟩ := F3.ns
  have neL : s.heap.objs.size ≠ a := fun z => (N3 (a, excObj C t1 none .none) (by simp)).2.1 z.symm
  have hL4 : h4.Ns s.heap.objs.size (fun y => [(("self" : Str), Value.ref a), (par, u)].reverse.lookup y) := ⟨oL, esL, epL, keep4 _ _ neL hL, restL⟩
  have all4 : ∀ b o, b ≠ a → s.heap.get? b = some o → h4.get? b = some o := fun b o n e =>
    keep4 b o n (F3.keep b o ((Heap.hide_ne s.heap n).trans e))
  have in4 : K.In h4 := env.mod.kin.keeps fun b o e => all4 b o (neA (bh b o e)) (bk b o e)
  refine wpAt_of_wpAny (wpAny_execs_cons (plainObj_wpAny_Assign_Attribute ?_ (hsw _)))
  refine wpAny_Name (wpAny_loadName_local hk hkP hL4 mpar ?_) hpd
  refine wpAny_Name (wpAny_loadName_local hk hkS hL4 mself ?_)
  refine set_first X in4 he4 clsC rfl htail rfl nf T.sa (fun h5 tk dx keep5 hdx dne hx hn => wpAny_execs_nil ?_)
  have dn : s.heap.objs.size ≤ dx := Nat.le_trans (Nat.le_of_lt (Heap.lt_size (keep4 _ _ neL hL))) hdx
  obtain ⟨un, ok⟩ := excLaid (P := P) (w := w) (fs := frs outer) env.hok ea ru dn dne (fun b o n e => keep5 b o n (all4 b o n e)) hx hn
  exact ⟨.non, _, rfl, env.bare, un, ok, rfl, q dx (env.hok.fresh dn) dne⟩
end
end JgX
namespace JgX
open PySem PySem.W PySem.Calls PyProof.Rows PySem.Spec L2
/-! ### C(v) in a raise -/
abbrev mroV : List Value := [.type "ValueError", .type "Exception", .type "BaseException", .type "object"]
theorem refs_tail : ∀ {l : List Value}, excTail mroV l = true → HandSPX.refsVE l = true := by
  intro l
  induction l with
  | nil => intro h; exact absurd h (by decide +kernel)
  | cons a r ih =>
    intro h
    rcases excTail_cases _ h with ⟨c, r', e, h'⟩ | e
    · cases e
      exact ih h'
    · rw [e]
      decide +kernel
/-- the library's word for such a class, under ValueError -/
theorem XC.oex {K : Frag} {C : Addr} {B i : String} (T : XC K C B "ValueError.__new__" i mroV) : OexC K C := by
  obtain ⟨nm, q, N, bs, bm, sn, sub, ab, col, dd, k0, k1, k2, k3, k5, hC, ht⟩ := T.cls
  exact ⟨⟨nm, q, N, bs, bm, sn, sub, ab, col, dd, k0, k1, k2, k3, k5, hC, refs_tail ht⟩, T.sa, T.exC, T.tyC, T.kC⟩
section
variable {X : Cx} {CX : CXT} {x : Str} {C fI : Addr} {k : Nat} {fd : FuncData} {ps : List Str} {sp : Sp} {ds : List Value} {dvs : List V} {e : Expr} {es : List Expr} {ta : TA} {p pos : Pos} {B i : String}
theorem mk_x (XB : XBase B "ValueError.__new__" i mroV) (T : XC X.K C B "ValueError.__new__" i mroV) (iC : findIn X.K (.ref C) "__init__" = some (some (.ref fI))) (tI : typeIn X.K (.ref fI) = some (.type "function"))
    (F1 : FnOk X.prog X.w X.K X.mg X.base CX k fI fd ps sp) (hr : Room (k + 1) X.A) (hb : Binds X.K fd ps ds) (hd : Vals dvs ds) (hx : Passes CX X (fun _ _ _ => False)) (hg : Gl X x) (hm : X.mg x = some (.ref C)) (ha : PA X (e :: es) ta)
    (hdb : (x == ("__debug__" : Str)) = false := by decide) (he : starEach (e :: es) X.env = (false, eval e X.env) :: starEach es X.env := by rfl) (hpl : (backTo pos (starEach es X.env)).any (·.1) = false := by rfl) :
    PMk X (.Call (.Name x p) (e :: es) [] pos) (tMkO C sp dvs ta) := pmk_oex T.oex iC tI F1 hr hb hd hx hg hm ha hdb he hpl
end
end JgX
namespace JgX
open PySem PySem.W PySem.Calls PyProof.Rows PySem.Spec L2
/-! ### a tracked exception: isinstance, e.f -/
/-- what its class must have -/
structure XA (K : PySem.W.Frag) (C : Addr) : Prop where
  f : XfC K C
  cl : (clsIn K C).isSome = true
  ha : findIn K (.ref C) "__class__" = some (some (.builtin "object.__class__"))
  hn : specialIn K (.builtin "object.__class__") "__get__" = some (some (.builtin "getset_descriptor.__get__"))
  tk : takesIn K (.builtin "object.__class__") = some true
  hm : mroIn K C (.type "object") = some true
/-- a stands for an exception of the class at C with these fields -/
def Xe (H : Hp) (a C : Addr) (fs : List (Str × V)) : Prop := ∃ dx, H a = some (exo a C (some dx)) ∧ H dx = some (exd dx fs)
abbrev keptObj (C t1 dx : Addr) : Obj := { cls := .ref C, dict := some dx, data := .fields #[.ref t1, .none, .none, .none, .bool false, .none] }
/-- at a: an exception of the class at C, made with the text z -/
def Kx (H : Hp) (a C : Addr) (z : Str) : Prop := ∃ (t1 dx : Addr) (fs : List (Str × V)), H a = some (.frz (keptObj C t1 dx) (exo a C (some dx))) ∧ H dx = some (exd dx fs) ∧ H t1 = some (.tup [.str z])
/-- a stands for an exception of the class at C, made to be raised or kept -/
def Xin (H : Hp) (a C : Addr) : Prop := (∃ fs : List (Str × V), Xe H a C fs) ∨ ∃ z : Str, Kx H a C z
def rIsiX (K : PySem.W.Frag) : List V → Hp → VK → Prop := fun xs H Q => ∃ (a C : Addr) (c : V) (u : Value) (b : Bool), xs = [.ref a, c] ∧ ClsV c u ∧ Xin H a C ∧ XA K C ∧ kitOne K (.ref C) u = some b ∧ Q (.bl b) H
def rEith (r1 r2 : List V → Hp → VK → Prop) : List V → Hp → VK → Prop := fun xs H Q => r1 xs H Q ∨ r2 xs H Q
section
variable {X : Cx}
theorem call_eith {c : Value} {r1 r2 : List V → Hp → VK → Prop} (h1 : CallR X c r1) (h2 : CallR X c r2) : CallR X c (rEith r1 r2) := by
  intro pins s σ H xs us Q I r h
  rcases h with h | h
  · exact h1 pins s σ H xs us Q I r h
  · exact h2 pins s σ H xs us Q I r h
theorem Xe.inst {pins : List (Addr × Obj)} {σ : L2.St} {H : Hp} {s : Shared} {a C : Addr} {fs : List (Str × V)} (I : Inv X pins σ H s) (e : Xe H a C fs) : ∃ (oe od : Obj) (dx : Addr) (mA : Str → Option Value), InstAt s.heap a oe C (some od) ∧ (∃ vs, oe.data = .fields vs) ∧ oe.dict = some dx ∧ s.heap.Ns1 dx mA ∧ (∀ f, RelO (fs.lookup f) (mA f)) ∧ s.heap.get? dx = some od := by
  obtain ⟨dx, ea, ed⟩ := e
  obtain ⟨t1, ho⟩ := exo_at I.hok ea
  obtain ⟨mA, hns, rel⟩ := exd_at I.hok ed
  obtain ⟨od, hod, hl⟩ := lookIn_ns hns
  exact ⟨_, od, dx, mA, ⟨ho, rfl, rfl, hod⟩, ⟨_, rfl⟩, rfl, hns, rel, hod⟩
theorem Kx.inst {pins : List (Addr × Obj)} {σ : L2.St} {H : Hp} {s : Shared} {a C : Addr} {z : Str} (I : Inv X pins σ H s) (e : Kx H a C z) : ∃ (oe od : Obj), InstAt s.heap a oe C (some od) := by
  obtain ⟨t1, dx, fs, ea, ed, _⟩ := e
  have ho : s.heap.get? a = some (keptObj C t1 dx) := (I.hok a _ ea).1
  obtain ⟨mA, hns, rel⟩ := exd_at I.hok ed
  obtain ⟨od, hod, hl⟩ := lookIn_ns hns
  exact ⟨_, od, ho, rfl, rfl, hod⟩
theorem call_isiX : CallR X (.builtin "isinstance") (rIsiX X.K) := by
  intro pins s σ H xs us Q I r h
  obtain ⟨a, C, c, u, b, rfl, k, xe, T, e, q⟩ := h
  obtain ⟨u1, u2, rfl, r1, r2⟩ := vals2 r
  have e2 := k.eq r2
  subst e2
  cases (show u1 = Value.ref a from r1)
  have J : ∃ (oe od : Obj), InstAt s.heap a oe C (some od) := by
    rcases xe with ⟨fs, xe⟩ | ⟨z, xe⟩
    · obtain ⟨oe, od, dx, mA, J, _, _, _, _, _⟩ := xe.inst I
      exact ⟨oe, od, J⟩
    · exact xe.inst I
  obtain ⟨oe, od, J⟩ := J
  exact kia_one (kitx_exc T.cl T.f.ga T.f.gg T.f.exC T.ha T.hn T.tk T.hm) I.kIn J e (fun z => nomatch z) fun tk => ⟨.bl b, H, I.tok tk, rfl, q⟩
/-- isinstance of data or of an exception -/
theorem call_isiE {K : PySem.W.Frag} (hK : X.K = K := by rfl) : CallR X (.builtin "isinstance") (rEith (rIsi K) (rIsiX K)) := by
  subst hK
  exact call_eith call_isi call_isiX
/-- e.f of such -/
def tXg (K : PySem.W.Frag) (f : Str) (te : TE) : TE := fun σ H Q => te σ H fun x H1 => ∃ (a C : Addr) (fs : List (Str × V)) (v : V), x = .ref a ∧ Xe H1 a C fs ∧ XfC K C ∧ findIn K (.ref C) f = some none ∧ fs.lookup f = some v ∧ Q v H1
theorem pe_xg {K : PySem.W.Frag} {e : Expr} {te : TE} {pos : Pos} {n : Str} (he : PE X e te) (hb : attributeBase e n X.env (eval e X.env) = eval e X.env := by rfl) (hK : X.K = K := by rfl) : PE X (.Attribute e n pos) (tXg K n te) := by
  subst hK
  refine ⟨fun pins s σ H Q I h => ?_⟩
  refine attr_of hb (thn (he.run pins s σ H _ I h) fun u s1 hh => ?_)
  obtain ⟨x, H1, I1, rx, a, C, fs, v, ex, xe, T, hno, l, q⟩ := hh
  subst ex
  obtain rfl : u = Value.ref a := rx
  obtain ⟨oe, od, dx, mA, J, _, hdict, hns, rel, hod⟩ := xe.inst I1
  obtain ⟨od', ho', hl⟩ := lookIn_ns hns
  obtain rfl : od' = od := Option.some.inj (ho'.symm.trans hod)
  obtain ⟨u, hu, ru⟩ := RelO.some_of (v := v) (o := mA n) (by rw [← l]; exact rel n)
  exact HandSPX.exc_get I1.kIn J T.ga T.gg T.exC (findObj_own T.hdC hno rfl (by rw [hl, hu])) (handed_of ru) ⟨v, H1, I1.tok _, ru, q⟩
end

/-! ### facts of a class, from the text and from the written part -/
/-- what the text of such an __init__ is -/
structure XSt (st : Stmt) (f par : Str) : Prop where
  ex : ∃ (text : Str) (j : Nat) (p0 p1 p2 p3 p4 p5 p6 p7 p8 : Pos), defBody st = xBody text f par j p0 p1 p2 p3 p4 p5 p6 p7 p8 ∧
    (∀ en : Env, ∃ pl : Sem Bool, eval (.Call (.Attribute (.Call (.Name "super" p0) [] [] p1) "__init__" p2) [.Constant (.str text) j p3] [] p4) en = (do
      let ov ← attributeBase (.Call (.Name "super" p0) [] [] p1) "__init__" en (eval (.Call (.Name "super" p0) [] [] p1) en)
      standAt p2.atName
      let (f, first) ← holding [ov] (getMethod ov "__init__" pl)
      callWith p4 f first (backTo p4 (starEach [.Constant (.str text) j p3] en)) [])) ∧
    (∀ en : Env, swapsWith (.Call (.Attribute (.Call (.Name "super" p0) [] [] p1) "__init__" p2) [.Constant (.str text) j p3] [] p4) none p4.line en = pure false) ∧
    (∀ env : Env, swapsWith (.Name par p7) (some (.Attribute (.Name "self" p5) f p6)) p8.line env = pure false)
  ks : (defScope st).names.lookup ("super" : Str) = some .globalImplicit
  kc : (defScope st).names.lookup ("__class__" : Str) = some .free
  kself : (defScope st).names.lookup ("self" : Str) = some .local
  kpar : (defScope st).names.lookup par = some .local
  kind : (defScope st).kind = .function
  cell : ∀ x ∈ (defScope st).names, x.2 ≠ .cell
  co : (defScope st).isCoroutine = false
  gen : (defScope st).isGenerator = false
  par0 : ∃ ar, ((defArgs st).posonlyargs ++ (defArgs st).args).head? = some ar ∧ ar.arg = ("self" : Str)
  ps : par ≠ ("self" : Str)
  pd : (par == ("__debug__" : Str)) = false
theorem xc_mk {K : Frag} {C N : Addr} {B newId i : String} {bmB bs bm sub : List Value} {nm q : Str} {sn : List Str} {ab : Bool} {col : Option Bool} {dd : Option Addr} {k0 k1 k2 k3 k5 : Option Value}
    (l : K.lookup C = some (excClassObj nm q C N bs bm true sn sub ab col dd k0 k1 k2 k3 k5 newId)) (t : excTail bmB bm = true) (sa : findIn K (.ref C) "__setattr__" = some (some (.builtin "object.__setattr__"))) (exC : subIn K (.ref C) (.type "BaseException") = some true)
    (tyC : typeIn K (.ref C) = some (.type "type")) (kC : keepIn K (.ref C) = true) (sup : ks_superIn K C C "__init__" = some (some (.builtin i))) (subB : subIn K (.ref C) (.type B) = some true) : XC K C B newId i bmB :=
  ⟨⟨nm, q, N, bs, bm, sn, sub, ab, col, dd, k0, k1, k2, k3, k5, l, t⟩, sa, exC, tyC, kC, sup, subB⟩
theorem xa_mk {K : Frag} {C : Addr} {o : Obj} {cd : ClassData} (ga : findIn K (.ref C) "__getattribute__" = some (some (.builtin "BaseException.__getattribute__"))) (gg : findIn K (.ref C) "__getattr__" = some none) (exC : subIn K (.ref C) (.type "BaseException") = some true) (hd : hasDictIn K C = true)
    (cl : clsIn K C = some cd) (ha : findIn K (.ref C) "__class__" = some (some (.builtin "object.__class__"))) (hn : specialIn K (.builtin "object.__class__") "__get__" = some (some (.builtin "getset_descriptor.__get__"))) (tk : takesIn K (.builtin "object.__class__") = some true)
    (hm : mroIn K C (.type "object") = some true) : XA K C := ⟨⟨ga, gg, exC, hd⟩, by rw [cl]; rfl, ha, hn, tk, hm⟩
theorem xfn_mk {P : Program} {K : Frag} {C fI cc cda : Addr} {nm qual : Str} {st : Stmt} {oc kV doc pm ct ccl cl : Value} {od an cdd cld : Option Addr} {osl ccs csl : Array (Option Value)} {vs : Array Value} {file : Str} {tf : Tok}
    (l : K.lookup fI = some ⟨oc, od, .func (ksFn nm qual (defArgs st) (defBody st) (defScope st) .none kV doc pm an (.ref cda) ct cc), osl⟩) (hcd : codeIn K (.ref cda) qual = true) (lcd : K.lookup cda = some ⟨ccl, cdd, .fields vs, ccs⟩) (hv2 : vs[2]? = some (.str file tf))
    (hfile : ((P.main.file : Str) == file) = true) (lcc : K.lookup cc = some ⟨cl, cld, .cell (some (.ref C)), csl⟩) (iC : findIn K (.ref C) "__init__" = some (some (.ref fI))) (tI : typeIn K (.ref fI) = some (.type "function")) :
    XFn P K C fI (ksFn nm qual (defArgs st) (defBody st) (defScope st) .none kV doc pm an (.ref cda) ct cc) qual (defArgs st) (defBody st) (defScope st) :=
  ⟨⟨nm, cc, cda, oc, kV, doc, pm, ct, ccl, cl, od, an, cdd, cld, osl, ccs, csl, vs, file, tf, rfl, l, hcd, lcd, hv2, hfile, lcc⟩, iC, tI⟩
theorem init_st {P : Program} {w : World} {K : Frag} {mg : Str → Option Value} {base : Heap} {CX : CXT} {k : Nat} {B newId i : String} {bmB : List Value} {C fI : Addr} {fd : FuncData} {qual f par : Str} {st : Stmt} (X : XBase B newId i bmB) (T : XC K C B newId i bmB)
    (S : XFn P K C fI fd qual (defArgs st) (defBody st) (defScope st)) (Z : XSt st f par) (nf : findIn K (.ref C) f = some none) (opq : nsIn K cStatics "thirdparty.any" = some none) (msup : mg "super" = none)
    (htop : (P.main.scope.names.lookup ("super" : Str)).isSome = false) : FnOk P w K mg base CX (k + 1) fI fd [("self" : Str), par] (xInit C f) := by
  obtain ⟨text, j, p0, p1, p2, p3, p4, p5, p6, p7, p8, eb, hev, hsx, hsw⟩ := Z.ex
  rw [eb] at S
  exact init_fn X T S nf opq msup htop Z.ks Z.kc Z.kself Z.kpar Z.kind Z.cell Z.co Z.gen Z.par0 Z.ps Z.pd hev hsx hsw
theorem XFn.binds {P : Program} {K : Frag} {C fI : Addr} {fd : FuncData} {qual : Str} {params : Arguments} {body : List Stmt} {scope : Scope} {ps : List Str} (S : XFn P K C fI fd qual params body scope)
    (h : ∀ (nm : Str) (cc cda : Addr) (kV doc pm ct : Value) (an : Option Addr) (us : List Value), us.length = ps.length → bindArgs (ksFn nm qual params body scope .none kV doc pm an (.ref cda) ct cc) ⟨us, []⟩ = pure (ps.zip us)) : Binds K fd ps [] := by
  obtain ⟨nm, cc, cda, oc, kV, doc, pm, ct, ccl, cl, od, an, cdd, cld, osl, ccs, csl, vs, file, tf, rfl, _⟩ := S.ex
  exact .all (h nm cc cda kV doc pm ct an)
theorem g_mkO {C : Addr} {sp : Sp} {dvs : List V} {σ : L2.St} {H : Hp} {Q : XK} {ta : TA} (q : ta σ H fun vs H1 => vs.length ≤ 1000 ∧ ∀ a, H1 a = none → sp (.ref a :: (vs ++ dvs)) (upd H1 a (exo a C none))
    (fun v H2 => v = .non ∧ ∃ (d : Addr) (fs : List (Str × V)), H2 a = some (exo a C (some d)) ∧ H2 d = some (exd d fs) ∧ H1 d = none ∧ Q (.ref C) (some d) (upd (del H2 a) d (.xd fs))) (fun _ _ _ => False)) : tMkO C sp dvs ta σ H Q := q
/-- raise C(v) read: the dict that the exception gets is new -/
theorem g_mkX {C : Addr} {f : Str} {y : V} {H1 : Hp} {Q : XK} (q : ∀ dx, H1 dx = none → Q (.ref C) (some dx) (upd H1 dx (.xd [(f, y)]))) : [y].length ≤ 1000 ∧ ∀ a, H1 a = none → xInit C f (.ref a :: ([y] ++ [])) (upd H1 a (exo a C none))
    (fun v H2 => v = .non ∧ ∃ (d : Addr) (fs : List (Str × V)), H2 a = some (exo a C (some d)) ∧ H2 d = some (exd d fs) ∧ H1 d = none ∧ Q (.ref C) (some d) (upd (del H2 a) d (.xd fs))) (fun _ _ _ => False) := by
  refine ⟨by simp, fun a ha => ⟨a, y, rfl, upd_same, fun dx hd hne => ⟨rfl, dx, [(f, y)], upd_same, ?_, ?_, ?_⟩⟩⟩
  · rw [upd_ne hne, upd_same]
  · rw [upd_ne hne] at hd
    exact hd
  · rw [upd_ne hne] at hd
    have e : upd (del (upd (upd (upd H1 a (exo a C none)) dx (exd dx [(f, y)])) a (exo a C (some dx))) a) dx (.xd [(f, y)]) = upd H1 dx (.xd [(f, y)]) := by
      funext b
      by_cases h1 : b = dx
      · rw [h1, upd_same, upd_same]
      · rw [upd_ne h1, upd_ne h1]
        by_cases h2 : b = a
        · rw [h2, del_same, ha]
        · rw [del_ne h2, upd_ne h2, upd_ne h1, upd_ne h2]
    rw [e]
    exact q dx hd
end JgX
namespace Jg
open PySem PySem.Spec L2 JgX
/-! ### things of any kind, by what isinstance tells of them -/
def Isi (K : PySem.W.Frag) (H : Hp) (v : V) (T : String) (b : Bool) : Prop := ∀ Q : VK, Q (.bl b) H → rEith (rIsi K) (rIsiX K) [v, .ty T] H Q
section
variable {K : PySem.W.Frag} {H : Hp} {v : V} {T ty : String} {b : Bool} {Q : VK}
theorem Isi.of (h : TyX K H v (.type ty)) (k : kitB ty T = some b) : Isi K H v T b := fun Q q => Or.inl ⟨v, .ty T, .type ty, .type T, b, rfl, .ty T, h, kit_ty k, q⟩
theorem Isi.exc {a C : Addr} (e : Xin H a C) (x : XA K C) (k : PySem.W.kitOne K (.ref C) (.type T) = some b) : Isi K H (.ref a) T b := fun Q q => Or.inr ⟨a, C, .ty T, .type T, b, rfl, .ty T, e, x, k, q⟩
theorem g_isiE (h : Isi K H v T b) (q : Q (.bl b) H) : rEith (rIsi K) (rIsiX K) [v, .ty T] H Q := h Q q
theorem isi_s (z : Str) : Isi K H (.str z) "str" true := .of (.base (.str z)) (by decide +kernel)
theorem isi_si (z : Str) : Isi K H (.str z) "int" false := .of (.base (.str z)) (by decide +kernel)
theorem isi_i (z : Int) : Isi K H (.int z) "int" true := .of (.base (.int z)) (by decide +kernel)
theorem isi_ib (z : Int) : Isi K H (.int z) "bool" false := .of (.base (.int z)) (by decide +kernel)
theorem isi_b (z : Bool) : Isi K H (.bl z) "int" true := .of (.base (.bl z)) (by decide +kernel)
theorem isi_bb (z : Bool) : Isi K H (.bl z) "bool" true := .of (.base (.bl z)) (by decide +kernel)
end
/-- a thing: a number that isn't a truth, or none -/
def IsW (K : PySem.W.Frag) (H : Hp) (v : V) : Option Int → Prop
  | some i => v = .int i
  | none => (∃ b, v = .bl b) ∨ Isi K H v "int" false
/-- a thing: a text of at most n signs, or none -/
def IsS (K : PySem.W.Frag) (H : Hp) (n : Nat) (v : V) : Option Str → Prop
  | some z => v = .str z ∧ Sg z n
  | none => Isi K H v "str" false
/-- [f c for c in text] -/
theorem lc_strP {σ : L2.St} {H : Hp} {Q : VK} {te : TE} {i : Nat} {z : Str} (f : Nat → V) (hn : z.cps.size < sizeLine) (wv : ∀ x, wipe ((wipe σ [i]).set i (some x)) [i] = wipe σ [i])
    (hs : ∀ c ∈ z.cps.toList, ∀ (H2 : Hp) (R : VK), Same H H2 → R (f c) H2 → te ((wipe σ [i]).set i (some (.str ⟨#[c]⟩))) H2 R)
    (q : ∀ D, H D = none → Q (.ref D) (upd H D (.lst (z.cps.toList.map f)))) : lcB (gName i) tYes te [i] σ Q (Its z) H := by
  intro D hD
  refine lc_it (n := z.cps.size) walk_str (fun j H2 => H2 = upd H D (.lst ((z.cps.toList.take j).map f))) (by rw [List.take_zero, List.map_nil]) (fun _ _ _ _ => trivial) ?_ ?_
  · rintro j x H2 H3 hj rfl ⟨rfl, c, hc, rfl⟩
    have hc2 : z.cps.toList[j]? = some c := by simpa using hc
    refine ⟨wv _, ?_⟩
    with_reducible refine g_tyes ?_
    with_reducible refine g_true ?_
    refine hs c (List.mem_of_getElem? hc2) _ _ (fun b o e => by rw [upd_ne (ne_of_none e hD)]; exact e) ?_
    refine ⟨_, upd_same, ?_, ?_⟩
    · rw [List.length_map]
      exact Nat.lt_of_le_of_lt (List.length_take_le' _ _) (by rw [Array.length_toList]; exact hn)
    · rw [upd_upd, List.take_add_one, hc2, List.map_append]
      rfl
  · rintro H2 rfl
    rw [← Array.length_toList, List.take_length]
    exact q D hD
/-! ### plain numbers -/
def digit (c : Nat) : Bool := decide (48 ≤ c) && decide (c ≤ 57)
def plainT (z : Str) : Bool := decide (1 ≤ (TL.tl z).length) && decide ((TL.tl z).length ≤ 30) && (TL.tl z).all digit && (decide ((TL.tl z).head? ≠ some 48) || decide ((TL.tl z).length = 1))
def plainO : Option Str → Bool
  | some z => plainT z
  | none => false
def numT (z : Str) : Int := (NumText.digitsVal (TL.tl z) : Nat)
def numO (o : Option Str) (lo hi : Int) : Option Int := o.bind fun z => if plainT z = true then (if lo ≤ numT z ∧ numT z ≤ hi then some (numT z) else none) else none
def numV : Option Int → V
  | some i => .int i
  | none => .non
theorem figs (c : Nat) : decide (c ∈ (Str.ofString "0123456789").cps.toList) = digit c := by
  have : (Str.ofString "0123456789").cps.toList = [48, 49, 50, 51, 52, 53, 54, 55, 56, 57] := by decide +kernel
  rw [this]
  unfold digit
  rw [Bool.eq_iff_iff]
  simp only [List.mem_cons, List.not_mem_nil, or_false, decide_eq_true_eq, Bool.and_eq_true]
  omega
/-! ### a module's constants -/
theorem pe_globS {X : Cx} {x : Str} {z : Str} {pos : Pos} (hg : Gl X x) (h : ∃ t, X.mg x = some (.str z t)) (hd : (x == ("__debug__" : Str)) = false := by decide) : PE X (.Name x pos) (tC (.str z)) := by
  obtain ⟨t, e⟩ := h
  exact pe_glob hg e ⟨t, rfl⟩ hd
theorem pe_globI {X : Cx} {x : Str} {z : Int} {pos : Pos} (hg : Gl X x) (h : ∃ t, X.mg x = some (.int z t)) (hd : (x == ("__debug__" : Str)) = false := by decide) : PE X (.Name x pos) (tC (.int z)) := by
  obtain ⟨t, e⟩ := h
  exact pe_glob hg e ⟨t, rfl⟩ hd
theorem g_chain {r r' : R2} {ta tb tc : TE} {σ : L2.St} {H : Hp} {Q : VK} (q : ta σ H fun x H1 => tb σ H1 fun y H2 => r x y H2 fun z H3 => ∃ k, z = .bl k ∧ (if k = true then tc σ H3 fun w' H4 => r' y w' H4 Q else Q (.bl false) H3)) : tChain r r' ta tb tc σ H Q := q
def wholeB (lo hi : Int) : Option Int → Bool
  | some i => decide (lo ≤ i ∧ i ≤ hi)
  | none => false
theorem g_ntwo {c A B : Prop} [Decidable c] (h1 : c → B) (h2 : ¬ c → A) : if (!decide c) = true then A else B := by
  by_cases h : c
  · rw [decide_eq_true h]
    exact g_nt (h1 h)
  · rw [decide_eq_false h]
    exact g_nf (h2 h)
def rIntS : List V → Hp → VK → Prop := fun xs H Q => ∃ a n, xs = [.str a] ∧ PySem.intText? a = some n ∧ a.length ≤ 640 ∧ Q (.int n) H
theorem call_intS {X : Cx} : CallR X (.type "int") rIntS := call_int_str
theorem plain_num {z : Str} (h : plainT z = true) : PySem.intText? z = some (numT z) ∧ z.length ≤ 30 ∧ 1 ≤ z.length ∧ (TL.tl z).all digit = true := by
  unfold plainT at h
  rw [Bool.and_eq_true, Bool.and_eq_true, Bool.and_eq_true, decide_eq_true_eq, decide_eq_true_eq] at h
  obtain ⟨⟨⟨h1, h2⟩, h3⟩, _⟩ := h
  rw [TL.len_tl]
  refine ⟨PySem.intText_digits (x := z) (fun c hc => ?_) (fun e => ?_) (by rw [TL.len_tl]; omega), h2, h1, h3⟩
  · have z9 := List.all_eq_true.mp h3 c hc
    unfold digit at z9
    rw [Bool.and_eq_true, decide_eq_true_eq, decide_eq_true_eq] at z9
    exact z9
  · have : (TL.tl z).length = 0 := by
      rw [show TL.tl z = [] from e]
      rfl
    omega
theorem g_intS {z : Str} {H : Hp} {Q : VK} (h : plainT z = true) (q : Q (.int (numT z)) H) : rIntS [.str z] H Q := ⟨z, numT z, rfl, (plain_num h).1, Nat.le_trans (plain_num h).2.1 (by decide), q⟩
theorem g_callN {n m : Nat} {sp : Sp} {gV : List V → List V → List V} {E : XK} {t tk : TA} {σ : L2.St} {H : Hp} {Q : VK} (q : t σ H fun vs H1 => tk σ H1 fun zs H2 => vs.length = n ∧ zs.length = m ∧ sp (gV vs zs) H2 Q E) : tCallN n m sp gV E t tk σ H Q := q
theorem numV_some (o : Option Int) : (!decide (numV o = .non)) = o.isSome := by cases o <;> simp [numV]
theorem at_head {z : Str} {c : Nat} {r : List Nat} (h : TL.tl z = c :: r) : atI z.cps.toList 0 = some c := by
  show atI (TL.tl z) 0 = some c
  rw [h]
  unfold atI ixN
  rw [if_pos (by decide), if_pos (by rw [List.length_cons]; omega)]
  rfl
theorem tl_cons {z : Str} (h : 1 ≤ z.length) : ∃ c r, TL.tl z = c :: r := by
  rw [TL.len_tl] at h
  cases h9 : TL.tl z with
  | nil => rw [h9] at h; simp at h
  | cons c r => exact ⟨c, r, rfl⟩
theorem int_one (n : Nat) : decide (V.int (n : Int) = V.int 1) = decide (n = 1) := by
  rw [Bool.eq_iff_iff, decide_eq_true_eq, decide_eq_true_eq]
  constructor
  · intro h
    have h7 := V.int.inj h
    omega
  · intro h
    rw [h]
    rfl
/-! ### texts and what is none, standing through changes elsewhere -/
/-- a thing that is no text, by its class -/
def NoS (H : Hp) (v : V) : Prop := v = .non ∨ (∃ b, v = .bl b) ∨ (∃ i, v = .int i) ∨ ∃ q, v = .ref q ∧ ((∃ xs, H q = some (.lst xs)) ∨ (∃ xs, H q = some (.tup xs)) ∨ ∃ kvs, H q = some (.dK kvs))
/-- what a thing is: a text, or none -/
def IsT (H : Hp) (v : V) : Option Str → Prop
  | some z => v = .str z ∧ Sg z 2000
  | none => NoS H v
theorem NoS.isi {K : PySem.W.Frag} {H : Hp} {v : V} (h : NoS H v) : ∃ ty, TyX K H v (.type ty) ∧ PySem.W.kitOne K (.type ty) (.type "str") = some false := by
  rcases h with rfl | ⟨b, rfl⟩ | ⟨i, rfl⟩ | ⟨q, rfl, ⟨xs, e⟩ | ⟨xs, e⟩ | ⟨xs, e⟩⟩
  · exact ⟨_, .base .non, kit_ty (by decide +kernel)⟩
  · exact ⟨_, .base (.bl b), kit_ty (by decide +kernel)⟩
  · exact ⟨_, .base (.int i), kit_ty (by decide +kernel)⟩
  · exact ⟨_, .base (.lst e), kit_ty (by decide +kernel)⟩
  · exact ⟨_, .base (.tup e), kit_ty (by decide +kernel)⟩
  · exact ⟨_, .base (.dK e), kit_ty (by decide +kernel)⟩
theorem NoS.same {H H' : Hp} {v : V} (h : NoS H v) (s : Same H H') : NoS H' v := by
  rcases h with h | h | h | ⟨q, e, ⟨xs, h⟩ | ⟨xs, h⟩ | ⟨xs, h⟩⟩
  · exact Or.inl h
  · exact Or.inr (Or.inl h)
  · exact Or.inr (Or.inr (Or.inl h))
  · exact Or.inr (Or.inr (Or.inr ⟨q, e, Or.inl ⟨xs, s _ _ h⟩⟩))
  · exact Or.inr (Or.inr (Or.inr ⟨q, e, Or.inr (Or.inl ⟨xs, s _ _ h⟩)⟩))
  · exact Or.inr (Or.inr (Or.inr ⟨q, e, Or.inr (Or.inr ⟨xs, s _ _ h⟩)⟩))
theorem IsT.same {H H' : Hp} {v : V} {o : Option Str} (h : IsT H v o) (s : Same H H') : IsT H' v o := by
  cases o with
  | some z => exact h
  | none => exact NoS.same h s
theorem isi_str {K : PySem.W.Frag} {H : Hp} (z : Str) : TyX K H (.str z) (.type "str") ∧ PySem.W.kitOne K (.type "str") (.type "str") = some true := ⟨.base (.str z), kit_ty (by decide +kernel)⟩
theorem IsT.mv {p : Addr} {H H' : Hp} {v : V} {o : Option Str} (h : IsT H v o) (hp : ∀ q, v = .ref q → q ≠ p) (m : Mv p H H') : IsT H' v o := by
  cases o with
  | some z => exact h
  | none =>
    rcases h with h | h | h | ⟨q, e, ⟨xs, h⟩ | ⟨xs, h⟩ | ⟨xs, h⟩⟩
    · exact Or.inl h
    · exact Or.inr (Or.inl h)
    · exact Or.inr (Or.inr (Or.inl h))
    · exact Or.inr (Or.inr (Or.inr ⟨q, e, Or.inl ⟨xs, m _ _ (hp q e) h⟩⟩))
    · exact Or.inr (Or.inr (Or.inr ⟨q, e, Or.inr (Or.inl ⟨xs, m _ _ (hp q e) h⟩)⟩))
    · exact Or.inr (Or.inr (Or.inr ⟨q, e, Or.inr (Or.inr ⟨xs, m _ _ (hp q e) h⟩)⟩))
theorem IsT.iss {K : PySem.W.Frag} {H : Hp} {v : V} {o : Option Str} (h : IsT H v o) : IsS K H 2000 v o := by
  cases o with
  | some z => exact h
  | none =>
    obtain ⟨ty, h1, h2⟩ := NoS.isi (K := K) h
    exact fun Q q => Or.inl ⟨v, .ty "str", .type ty, .type "str", false, rfl, .ty "str", h1, h2, q⟩
def rSIdx : V → List V → Hp → VK → Prop := fun x xs H Q => ∃ a b i rest, x = .str a ∧ xs = [.str b] ∧ Builtin.Str.occurrences a b 0 a.length 1 = i :: rest ∧ Q (.int (i : Nat)) H
theorem mt_sidx {X : Cx} : MtR X "str.index" rSIdx := mt_sindex
theorem fig_at : ∀ c : Fin 58, 48 ≤ (c : Nat) → ∃ rest, Builtin.Str.occurrences (Str.ofString "0123456789") ⟨#[(c : Nat)]⟩ 0 (Str.ofString "0123456789").length 1 = ((c : Nat) - 48) :: rest := by
  have h : ∀ c : Fin 58, 48 ≤ (c : Nat) → (Builtin.Str.occurrences (Str.ofString "0123456789") ⟨#[(c : Nat)]⟩ 0 (Str.ofString "0123456789").length 1).head? = some ((c : Nat) - 48) := by decide +kernel
  intro c hc
  have e := h c hc
  cases q : Builtin.Str.occurrences (Str.ofString "0123456789") ⟨#[(c : Nat)]⟩ 0 (Str.ofString "0123456789").length 1 with
  | nil => rw [q] at e; cases e
  | cons x r => rw [q] at e; exact ⟨r, by rw [Option.some.inj e]⟩
theorem g_sidx {c : Nat} {H : Hp} {Q : VK} (h : digit c = true) (q : Q (.int ((c - 48 : Nat) : Int)) H) : rSIdx (.str (Str.ofString "0123456789")) [.str ⟨#[c]⟩] H Q := by
  unfold digit at h
  rw [Bool.and_eq_true, decide_eq_true_eq, decide_eq_true_eq] at h
  obtain ⟨r, e⟩ := fig_at ⟨c, by omega⟩ h.1
  exact ⟨_, _, c - 48, r, rfl, rfl, e, q⟩
theorem g_notInC {H : Hp} {Q : VK} {c : Nat} {x z : Str} (e : x = ⟨#[c]⟩) (q : Q (.bl (!decide (c ∈ z.cps.toList))) H) : rNotInS (.str x) (.str z) H Q := ⟨c, z, by rw [e], rfl, q⟩
/-- [f c for c in text if p c] -/
theorem lc_strF {σ : L2.St} {H : Hp} {Q : VK} {te : TE} {tt : TT} {i : Nat} {z : Str} (p : Nat → Bool) (f : Nat → V) (hn : z.cps.size < sizeLine) (wv : ∀ x, wipe ((wipe σ [i]).set i (some x)) [i] = wipe σ [i])
    (hp : ∀ c ∈ z.cps.toList, ∀ (H2 : Hp) (B : Bool → Hp → Prop), Same H H2 → B (p c) H2 → tt ((wipe σ [i]).set i (some (.str ⟨#[c]⟩))) H2 B)
    (hs : ∀ c ∈ z.cps.toList, ∀ (H2 : Hp) (R : VK), Same H H2 → R (f c) H2 → te ((wipe σ [i]).set i (some (.str ⟨#[c]⟩))) H2 R)
    (q : ∀ D, H D = none → Q (.ref D) (upd H D (.lst ((z.cps.toList.filter p).map f)))) : lcB (gName i) tt te [i] σ Q (Its z) H := by
  intro D hD
  refine lc_it (n := z.cps.size) walk_str (fun j H2 => H2 = upd H D (.lst (((z.cps.toList.take j).filter p).map f))) (by rw [List.take_zero, List.filter_nil, List.map_nil]) (fun _ _ _ _ => trivial) ?_ ?_
  · rintro j x H2 H3 hj rfl ⟨rfl, c, hc, rfl⟩
    have hc2 : z.cps.toList[j]? = some c := by simpa using hc
    have sm : Same H (upd H D (.lst (((z.cps.toList.take j).filter p).map f))) := fun b o e => by rw [upd_ne (ne_of_none e hD)]; exact e
    have mem := List.mem_of_getElem? hc2
    have step : (z.cps.toList.take (j + 1)).filter p = (z.cps.toList.take j).filter p ++ (if p c = true then [c] else []) := by
      rw [List.take_add_one, hc2, List.filter_append]
      congr 1
      cases hq : p c with
      | true => simp [hq]
      | false => simp [hq]
    refine ⟨wv _, ?_⟩
    refine hp c mem _ _ sm ?_
    by_cases hq : p c = true
    · rw [if_pos hq]
      refine hs c mem _ _ sm ?_
      refine ⟨_, upd_same, ?_, ?_⟩
      · rw [List.length_map]
        exact Nat.lt_of_le_of_lt (Nat.le_trans (List.length_filter_le _ _) (List.length_take_le' _ _)) (by rw [Array.length_toList]; exact hn)
      · rw [upd_upd, step, if_pos hq, List.map_append]
        rfl
    · rw [if_neg hq, step, if_neg hq, List.append_nil]
  · rintro H2 rfl
    rw [← Array.length_toList, List.take_length]
    exact q D hD
theorem dp_texts (K : PySem.W.Frag) (H : Hp) : ∀ ys : List Str, DpAll K H (ys.map V.str) (ys.map .str)
  | [] => .nil
  | y :: ys => .cons (.str y) (dp_texts K H ys)
theorem can_texts : ∀ {ys : List Str}, (∀ y ∈ ys, PyData.strOk y = true) → PyData.canLayAll0 (ys.map .str) = true ∧ PyData.depthAll (ys.map .str) = 0
  | [], _ => ⟨rfl, rfl⟩
  | y :: ys, h => by
    obtain ⟨h1, h2⟩ := can_texts (ys := ys) fun x hx => h x (List.mem_cons_of_mem _ hx)
    refine ⟨?_, ?_⟩
    · simp [PyData.canLayAll0, PyData.canLay0, h1, h y List.mem_cons_self]
    · simp [PyData.depthAll, PyData.depth, h2]
theorem shaped_texts {ys : List Str} (h : ∀ y ∈ ys, PyData.strOk y = true) : SeqAt.shaped (.list (ys.map .str)) = true := by
  obtain ⟨h1, h2⟩ := can_texts h
  unfold SeqAt.shaped
  simp [PyData.canLay0, PyData.depth, h1, h2]
/-- a list of texts isn't the empty one -/
theorem g_some {K : PySem.W.Frag} {H : Hp} {Q : VK} {p q : Addr} {ys : List Str} (h1 : H p = some (.lst (ys.map V.str))) (h2 : H q = some (.lst [])) (ok : ∀ y ∈ ys, PyData.strOk y = true) (r : Q (.bl (!ys.isEmpty)) H) : rNeD K (.ref p) (.ref q) H Q := by
  refine ⟨.list (ys.map .str), .list [], .lst (Or.inl (Or.inl h1)) (dp_texts K H ys), .lst (Or.inl (Or.inl h2)) .nil, shaped_texts ok, rfl, ?_⟩
  cases ys with
  | nil => exact r
  | cons y ys => exact r
theorem g_two2 {c A B : Prop} [Decidable c] (h2 : B) (h1 : B → c → A) : if decide c = true then A else B := g_two (h1 h2) (fun _ => h2)
theorem digits_snoc (l : List Nat) (c : Nat) : NumText.digitsVal (l ++ [c]) = NumText.digitsVal l * 10 + (c - 48) := by
  unfold NumText.digitsVal
  rw [List.foldl_append]
  rfl
theorem zero_only {z : Str} {r : List Nat} (h : TL.tl z = 48 :: r) : z = Str.ofString "0" ↔ z.length = 1 := by
  have e0 : TL.tl (Str.ofString "0") = [48] := by decide +kernel
  rw [TL.len_tl, h]
  constructor
  · intro e
    rw [e, e0] at h
    rw [← h]
    rfl
  · intro e
    have : r = [] := by
      cases r with
      | nil => rfl
      | cons x y => simp at e
    rw [this, ← e0] at h
    exact TL.ext_tl h
theorem digits_fold : ∀ (l : List Nat) (acc : Nat), l.all digit = true → l.foldl (fun a c => a * 10 + (c - 48)) acc + 1 ≤ (acc + 1) * 10 ^ l.length
  | [], acc, _ => by simp
  | c :: r, acc, h => by
    rw [List.all_cons, Bool.and_eq_true] at h
    obtain ⟨hc, hr⟩ := h
    unfold digit at hc
    rw [Bool.and_eq_true, decide_eq_true_eq, decide_eq_true_eq] at hc
    have ih := digits_fold r (acc * 10 + (c - 48)) hr
    have le : acc * 10 + (c - 48) + 1 ≤ (acc + 1) * 10 := by omega
    have := Nat.mul_le_mul_right (10 ^ r.length) le
    rw [List.foldl_cons, List.length_cons, Nat.pow_succ]
    have e : (acc + 1) * 10 * 10 ^ r.length = (acc + 1) * (10 ^ r.length * 10) := by rw [Nat.mul_assoc, Nat.mul_comm 10]
    omega
theorem digits_lt {l : List Nat} (h : l.all digit = true) : NumText.digitsVal l < 10 ^ l.length := by
  have := digits_fold l 0 h
  unfold NumText.digitsVal
  simp at this
  omega
theorem digits_take {l : List Nat} (h : l.all digit = true) (n : l.length ≤ 30) (i : Nat) : NumText.digitsVal (l.take i) < 1000000000000000000000000000000 := by
  have a : (l.take i).all digit = true := by
    rw [List.all_eq_true] at h ⊢
    exact fun x hx => h x (List.mem_of_mem_take hx)
  have b := digits_lt a
  have c : 10 ^ (l.take i).length ≤ 10 ^ 30 := Nat.pow_le_pow_right (by decide) (Nat.le_trans (List.length_take_le' _ _) n)
  have d : (10 : Nat) ^ 30 = 1000000000000000000000000000000 := by decide
  omega
theorem g_BM0 {K : PySem.W.Frag} {T : String} {r : V → List V → Hp → VK → Prop} {ta : TE} {σ : L2.St} {H : Hp} {Q : VK} (q : ta σ H fun x H1 => tyV K T x H1 ∧ r x [] H1 Q) : tBM0 K T r ta σ H Q := q
/-- f(k = v, ..): keywords alone -/
theorem pe_callN0 {X : Cx} {CX : CXT} {k : Nat} {f : Addr} {fd : FuncData} {ps ks : List Str} {sp : Sp} {E : XK} {x : Str} {p pos : Pos} {kws : List Keyword} {tk : TA} {g : List Value → List Value → List Value} {gV : List V → List V → List V}
    (F : FnOk X.prog X.w X.K X.mg X.base CX k f fd ps sp) (room : Room k X.A) (hg : Gl X x) (hm : X.mg x = some (.ref f)) (hk : PySem.W.keepIn X.K (.ref f) = true) (hb : KBn X.K fd ps 0 ks g gV) (hx : Passes CX X E) (words : PK X kws tk)
    (named : (backToKw pos (keywordEach kws X.env)).all (·.1.isSome) = true := by rfl) (hks : (backToKw pos (keywordEach kws X.env)).filterMap (·.1) = ks := by rfl) (hdb : (x == ("__debug__" : Str)) = false := by decide)
    (plain : ((backTo pos (starEach [] X.env)).any (·.1) || (backToKw pos (keywordEach kws X.env)).any (·.1.isNone)) = false := by rfl) : PE X (.Call (.Name x p) [] kws pos) (tCallN 0 ks.length sp gV E tNil tk) := by
  constructor
  intro pins s σ H Q I want
  refine wpAny_Call_Name_kw (ld_glob I hg hm ?_ hdb)
  refine PySem.W.callWith_KW0 (h₀ := X.base) I.ok.mod.kin hk named ?_ plain
  have told := words.run pos pins s σ H _ I want
  refine thn told ?_
  rintro ws s1 ⟨zs, H1, I1, rel, _, many, q⟩
  refine ⟨I1.kIn, ?_⟩
  rw [hks]
  exact run_fnN (us := []) (vs := []) F room hb hx I1 .nil rel rfl many q
end Jg
namespace JgX
open PySem PySem.W PySem.Calls PyProof.Rows PySem.Spec L2
/-! ### an exception that is kept as a value: what was said at its making stays -/
theorem frz_tup {o : Obj} {u : HO} {xs : List V} : HO.frz o u ≠ .tup xs := fun z => by cases z
theorem keptLaid {P : Program} {w : World} {H : Hp} {hp h' : Heap} {fs : List Addr} {a C dx t1 : Addr} {f : Str} {y : V} {u : Value} {z : Str} {tz : Tok} (hok : HOk P w H hp) (e : H a = some (exo a C none)) (ry : RelV y u)
    (dn : hp.objs.size ≤ dx) (dne : dx ≠ a) (tn : hp.objs.size ≤ t1) (tne : t1 ≠ a) (td : t1 ≠ dx) (k : ∀ b o, b ≠ a → hp.get? b = some o → h'.get? b = some o) (hx : h'.get? a = some (keptObj C t1 dx))
    (hn : h'.Ns1 dx (fun z => if z = f then some u else none)) (ht : h'.get? t1 = some (excTup [.str z tz])) :
    Un fs [] H (upd (upd (upd H t1 (.tup [.str z])) dx (exd dx [(f, y)])) a (.frz (keptObj C t1 dx) (exo a C (some dx)))) hp h' ∧
    HOk P w (upd (upd (upd H t1 (.tup [.str z])) dx (exd dx [(f, y)])) a (.frz (keptObj C t1 dx) (exo a C (some dx)))) h' := by
  have hnd : H dx = none := hok.fresh dn
  have hnt : H t1 = none := hok.fresh tn
  have nd : ∀ {b : Addr} {o : Obj}, hp.get? b = some o → b ≠ dx := fun {b o} q => Nat.ne_of_lt (Nat.lt_of_lt_of_le (Heap.lt_size q) dn)
  have nt : ∀ {b : Addr} {o : Obj}, hp.get? b = some o → b ≠ t1 := fun {b o} q => Nat.ne_of_lt (Nat.lt_of_lt_of_le (Heap.lt_size q) tn)
  have na : ∀ {b : Addr}, H b = none → b ≠ a := fun {b} n z => by
    rw [z, e] at n
    cases n
  -- what was tracked and isn't the exception stays tracked
  have st : ∀ {b : Addr} {o : HO}, H b = some o → b ≠ a → upd (upd (upd H t1 (.tup [.str z])) dx (exd dx [(f, y)])) a (.frz (keptObj C t1 dx) (exo a C (some dx))) b = some o := fun {b o} q hb => by
    rw [upd_ne hb, upd_ne (ne_of_none q hnd), upd_ne (ne_of_none q hnt)]
    exact q
  refine ⟨⟨fun b o q n _ _ => k b o (na n) q, fun b o q n _ _ => ⟨o.slots, k b o (na n) q⟩, fun b o q n _ => ?_, fun b o q _ => ?_, fun b xs q => st q (at_ne e q exo_tup), fun b o v q => st q (at_ne e q exo_frz), fun b ps q => ⟨#[], ?_⟩⟩, fun b o q => ?_⟩
  · rw [upd_ne (na n), upd_ne (nd q), upd_ne (nt q)]; exact n
  · by_cases hb : b = a
    · exact ⟨_, by rw [hb]; exact hx⟩
    · exact ⟨o, k b o hb q⟩
  · rw [st q (at_ne e q exo_tbl)]; simp
  by_cases hb : b = a
  · subst hb
    rw [upd_same] at q
    cases q
    exact ⟨hx, exo_ok hx⟩
  rw [upd_ne hb] at q
  by_cases hd : b = dx
  · subst hd
    rw [upd_same] at q
    cases q
    exact exd_ok hn (relO_put (fs := []) ry fun g => True.intro)
  rw [upd_ne hd] at q
  by_cases hb1 : b = t1
  · subst hb1
    rw [upd_same] at q
    cases q
    refine ⟨by rw [sizeLine_eq]; simp, [.str z tz], .cons ⟨tz, rfl⟩ .nil, _, ht, rfl, ⟨_, rfl⟩⟩
  rw [upd_ne hb1] at q
  refine (hok b o q).stay (fun c v hc z => k c v ?_ z) (fun c hc => st hc (at_ne e hc exo_own)) (fun c xs hc => st hc (at_ne e hc exo_tup))
  rcases hc with hc | hc
  · rw [hc]
    exact hb
  · exact at_ne e hc exo_own
end JgX
namespace JgX
open PySem PySem.W PySem.Calls PyProof.Rows PySem.Spec L2
section
variable {P : Program} {w : World} {K : Frag} {mg : Str → Option Value} {base : Heap} {CX : CXT} {k : Nat} {B newId i : String} {bmB : List Value} {C fI : Addr} {fd : FuncData} {qual f par text : Str} {params : Arguments} {scope : Scope}
  {p0 p1 p2 p3 p4 p5 p6 p7 p8 : Pos} {j : Nat}
/-- what such an __init__ promises where all of it is to be kept -/
def xKeep (C : Addr) (f : Str) (z : Str) : Sp := fun vs H Q _ => ∃ a y, vs = [.ref a, y] ∧ H a = some (exo a C none) ∧ ∀ dx t1, H dx = none → dx ≠ a → H t1 = none → t1 ≠ a → t1 ≠ dx →
  Q .non (upd (upd (upd H t1 (.tup [.str z])) dx (exd dx [(f, y)])) a (.frz (keptObj C t1 dx) (exo a C (some dx))))
theorem init_keep (X : XBase B newId i bmB) (T : XC K C B newId i bmB) (S : XFn P K C fI fd qual params (xBody text f par j p0 p1 p2 p3 p4 p5 p6 p7 p8) scope) (nf : findIn K (.ref C) f = some none)
    (opq : nsIn K cStatics "thirdparty.any" = some none) (msup : mg "super" = none) (htop : (P.main.scope.names.lookup ("super" : Str)).isSome = false)
    (hks : scope.names.lookup ("super" : Str) = some .globalImplicit) (hkc : scope.names.lookup ("__class__" : Str) = some .free) (hkS : scope.names.lookup ("self" : Str) = some .local) (hkP : scope.names.lookup par = some .local)
    (hk : scope.kind = .function) (hcell : ∀ x ∈ scope.names, x.2 ≠ .cell) (hco : scope.isCoroutine = false) (hgen : scope.isGenerator = false)
    (hpar : ∃ ar, (params.posonlyargs ++ params.args).head? = some ar ∧ ar.arg = ("self" : Str)) (hps : par ≠ ("self" : Str)) (hpd : (par == ("__debug__" : Str)) = false)
    (hev : ∀ en : Env, ∃ pl : Sem Bool, eval (.Call (.Attribute (.Call (.Name "super" p0) [] [] p1) "__init__" p2) [.Constant (.str text) j p3] [] p4) en = (do
      let ov ← attributeBase (.Call (.Name "super" p0) [] [] p1) "__init__" en (eval (.Call (.Name "super" p0) [] [] p1) en)
      standAt p2.atName
      let (f, first) ← holding [ov] (getMethod ov "__init__" pl)
      callWith p4 f first (backTo p4 (starEach [.Constant (.str text) j p3] en)) []))
    (hsx : ∀ en : Env, swapsWith (.Call (.Attribute (.Call (.Name "super" p0) [] [] p1) "__init__" p2) [.Constant (.str text) j p3] [] p4) none p4.line en = pure false)
    (hsw : ∀ env : Env, swapsWith (.Name par p7) (some (.Attribute (.Name "self" p5) f p6)) p8.line env = pure false) :
    FnOk P w K mg base CX (k + 1) fI fd [("self" : Str), par] (xKeep C f text) := by
  refine ⟨fun vs H Q E ⟨a, y, e, _⟩ => by rw [e]; rfl, fun A outer s H args us vs Q E room env bnd rel want => ?_⟩
  obtain ⟨a, y, rfl, ea, q⟩ := want
  obtain ⟨nm, cc, cda, oc, kV, doc, pm, ct, ccl, cl, od, an, cdd, cld, osl, ccs, csl, vs', file, tf, rfl, lk, hcd, lcd, hv2, hfile, lcc⟩ := S.ex
  obtain ⟨nmC, qC, NC, bsC, bmC, snC, sub, ab, col, dd, k0, k1, k2, k3, k5, hC, htail⟩ := T.cls
  obtain ⟨ar, har, harn⟩ := hpar
  cases rel with
  | @cons _ u0 _ ur ra rw' =>
  cases rw' with
  | @cons _ u _ ur' ru rz =>
  cases rz
  obtain rfl : u0 = Value.ref a := ra
  have bk : ∀ b o, base.get? b = some o → s.heap.get? b = some o := fun b o e => (env.bs b o e).1
  have kin : K.In s.heap := env.mod.kin.keeps bk
  obtain ⟨t1, hea⟩ := exo_at env.hok ea
  have clsC : clsIn K C = some { name := nmC, bases := bsC, mro := .ref C :: bmC, ns := NC, qualname := qC, hasDict := true, slotNames := snC, subclasses := sub, abstract := ab, collection := col, hasDel := false } := by
    unfold clsIn; rw [hC] <;> rfl
  have hsub : mroIn K C (.ref C) = some true := by
    unfold mroIn
    rw [clsC, Option.bind_some, if_neg (show ¬ (List.isEmpty (Value.ref C :: bmC) = true) from Bool.false_ne_true)]
    simp
  -- the heap without the exception
  have bh : ∀ b o, base.get? b = some o → (s.heap.hide a).get? b = some o := fun b o e =>
    (Heap.hide_ne s.heap fun z => by have n := (env.bs b o e).2; rw [z, ea] at n; cases n).trans (bk b o e)
  have kinH : K.In (s.heap.hide a) := env.mod.kin.keeps bh
  refine ks_codeAny_call_defAt (fd := ksFn nm qual params _ scope .none kV doc pm an (.ref cda) ct cc) (body := xBody text f par j p0 p1 p2 p3 p4 p5 p6 p7 p8) (binds := [(("self" : Str), Value.ref a), (par, u)]) room.depth (kin _ _ lk) rfl
    (env.mod.nolimit.keeps bk) (codeRec_of kin hcd) rfl bnd hcell (fun x hx => ?_) (fun h₁ hns hk₁ => ?_) hco hgen hk
  · rcases List.mem_cons.mp hx with rfl | hx
    · exact hkS
    · rcases List.mem_cons.mp hx with rfl | hx
      · exact hkP
      · cases hx
  have F1 : Fr (s.heap.hide a) s.heap.objs.size h₁ (fun y => [(("self" : Str), Value.ref a), (par, u)].reverse.lookup y) :=
    ⟨hns, fun b o e => hk₁ b o (Heap.of_hide e), Nat.le_of_eq (Heap.hide_size s.heap a)⟩
  have N1 : News (s.heap.hide a) s.heap.objs.size h₁ [(a, excObj C t1 none .none)] := fun p hp => by
    rcases List.mem_cons.mp hp with rfl | hp
    · exact ⟨hk₁ _ _ hea, Nat.ne_of_lt (Heap.lt_size hea), Heap.hide_self s.heap a⟩
    · cases hp
  have mself : (fun y => [(("self" : Str), Value.ref a), (par, u)].reverse.lookup y) ("self" : Str) = some (.ref a) := by
    have hb : (("self" : Str) == par) = false := by
      rw [beq_eq_false_iff_ne]; exact fun z => hps z.symm
    show List.lookup ("self" : Str) [(par, u), (("self" : Str), Value.ref a)] = _
    rw [List.lookup_cons, hb]
    simp [List.lookup_cons]
  have mpar : (fun y => [(("self" : Str), Value.ref a), (par, u)].reverse.lookup y) par = some u := by
    show List.lookup par [(par, u), (("self" : Str), Value.ref a)] = _
    simp [List.lookup_cons]
  have neA : ∀ {b : Addr} {o : Obj}, (s.heap.hide a).get? b = some o → b ≠ a := fun {b o} e z => by
    rw [z, Heap.hide_self] at e
    cases e
  obtain ⟨mb, hmb, hmbB⟩ := env.mod.blt
  have keep1 : ∀ b o, base.get? b = some o → h₁.get? b = some o := fun b o e => F1.keep b o (bh b o e)
  have kin1 : K.In h₁ := env.mod.kin.keeps keep1
  obtain ⟨pl, hev⟩ := hev (callEnv (ksFn nm qual params (xBody text f par j p0 p1 p2 p3 p4 p5 p6 p7 p8) scope .none kV doc pm an (.ref cda) ct cc) s.heap.objs.size fI)
  refine ks_wpAt_execs_cons (ks_wpAt_Expr_any (hi := by show (scope.kind == .module && _) = false; rw [hk]; rfl) (hs := hsx _) (ks_wpAt_MethodCall (pl := pl) (he := hev) (ks_wpAt_super_base (f := fI) (cc := cda) (ar := ar) (file := file) (tf := tf) hks hkc rfl rfl (kin1 _ _ lk) rfl har rfl (kin1 _ _ lcd) rfl hv2 hfile htop ?_)))
  refine ks_loadName_global hk hks (loadGlobal_builtin (mb := mb) (env.mod.glob.keeps keep1) msup (hmb.keeps keep1) ((hmbB _ (by decide)).trans (show bootBuiltins "super" = some (.type "super") by decide +kernel)) ⟨rfl, ?_⟩)
  refine wpAny_loadName_free hk hkc rfl ⟨_, kin1 _ _ lcc, rfl⟩ ?_
  rw [harn]
  refine wpAny_loadName_local hk hkS hns mself ?_
  refine ks_wpAny_isType_cls (kin1 _ _ hC) rfl ⟨rfl, ?_⟩
  refine ks_wpAny_call_super (kin1 _ _ hC) rfl (hk₁ _ _ hea) rfl (fun c z => by cases z) (looks_mroIn kin1 hsub) (fun h2 e2 keep2 => ?_)
  obtain ⟨F2, N2, l2⟩ := ks_newsPush (s := ⟨h₁, s.gens, s.drawn, s.toks + 2, s.os⟩) F1 N1 rfl e2 keep2
  refine kxs_method X.kf F2 kinH N2 (so := h₁.objs.size) (x := a) (C := C) (D := C) (by simp) (InstAt.of_exc0 (t := t1) (c2 := .none) N2 (by simp)) opq T.sup T.subB (by decide) (fun q3 h3 F3 N3 l3 => ?_)
  refine kxs_callWith1 (i := i) (x := a) N3 (by simp) (spliced_more (wpAny_Constant_str (spliced_none ⟨kxs_at N3 (by simp), ?_⟩)))
  have in3 : K.In h3 := kinH.keeps F3.keep
  refine call_wrap X (e := a) (t0 := t1) (in3 _ _ hC) (N3 (a, excObj C t1 none .none) (by simp)).1 (N3 (q3, kxs_mw i a) (by simp)).1 (by rw [sizeLine_eq]; simp) (fun h4 keep4 he4 tup4 => ?_)
  obtain ⟨oL, esL, epL, hL, restL⟩ := F3.ns
  have neL : s.heap.objs.size ≠ a := fun z => (N3 (a, excObj C t1 none .none) (by simp)).2.1 z.symm
  have hL4 : h4.Ns s.heap.objs.size (fun y => [(("self" : Str), Value.ref a), (par, u)].reverse.lookup y) := ⟨oL, esL, epL, keep4 _ _ neL hL, restL⟩
  have all4 : ∀ b o, b ≠ a → s.heap.get? b = some o → h4.get? b = some o := fun b o n e =>
    keep4 b o n (F3.keep b o ((Heap.hide_ne s.heap n).trans e))
  have in4 : K.In h4 := env.mod.kin.keeps fun b o e => all4 b o (neA (bh b o e)) (bk b o e)
  refine wpAt_of_wpAny (wpAny_execs_cons (plainObj_wpAny_Assign_Attribute ?_ (hsw _)))
  refine wpAny_Name (wpAny_loadName_local hk hkP hL4 mpar ?_) hpd
  refine wpAny_Name (wpAny_loadName_local hk hkS hL4 mself ?_)
  refine set_first X in4 he4 clsC rfl htail rfl nf T.sa (fun h5 tk dx keep5 hdx dne hx hn => wpAny_execs_nil ?_)
  have dn : s.heap.objs.size ≤ dx := Nat.le_trans (Nat.le_of_lt (Heap.lt_size (keep4 _ _ neL hL))) hdx
  have lt4 : h3.objs.size < h4.objs.size := Heap.lt_size tup4
  have t3n : s.heap.objs.size ≤ h3.objs.size := Nat.le_of_lt (Heap.lt_size hL)
  have t3a : h3.objs.size ≠ a := fun z => by
    have y : a < h3.objs.size := Heap.lt_size (N3 (a, excObj C t1 none .none) (by simp)).1
    exact Nat.lt_irrefl _ (z ▸ y)
  have t3d : h3.objs.size ≠ dx := Nat.ne_of_lt (Nat.lt_of_lt_of_le lt4 hdx)
  obtain ⟨un, ok⟩ := keptLaid (P := P) (w := w) (fs := frs outer) env.hok ea ru dn dne t3n t3a t3d (fun b o n e => keep5 b o n (all4 b o n e)) hx hn (keep5 _ _ t3a tup4)
  exact ⟨.non, _, rfl, env.bare, un, ok, rfl, q dx _ (env.hok.fresh dn) dne (env.hok.fresh t3n) t3a t3d⟩
end
end JgX
namespace JgX
open PySem PySem.W PySem.Calls PyProof.Rows PySem.Spec L2
/-- the text that such an __init__ says -/
def XSz (st : Stmt) (f par text : Str) : Prop := ∃ (j : Nat) (p0 p1 p2 p3 p4 p5 p6 p7 p8 : Pos), defBody st = xBody text f par j p0 p1 p2 p3 p4 p5 p6 p7 p8 ∧
    (∀ en : Env, ∃ pl : Sem Bool, eval (.Call (.Attribute (.Call (.Name "super" p0) [] [] p1) "__init__" p2) [.Constant (.str text) j p3] [] p4) en = (do
      let ov ← attributeBase (.Call (.Name "super" p0) [] [] p1) "__init__" en (eval (.Call (.Name "super" p0) [] [] p1) en)
      standAt p2.atName
      let (f, first) ← holding [ov] (getMethod ov "__init__" pl)
      callWith p4 f first (backTo p4 (starEach [.Constant (.str text) j p3] en)) [])) ∧
    (∀ en : Env, swapsWith (.Call (.Attribute (.Call (.Name "super" p0) [] [] p1) "__init__" p2) [.Constant (.str text) j p3] [] p4) none p4.line en = pure false) ∧
    (∀ env : Env, swapsWith (.Name par p7) (some (.Attribute (.Name "self" p5) f p6)) p8.line env = pure false)
theorem keep_st {P : Program} {w : World} {K : Frag} {mg : Str → Option Value} {base : Heap} {CX : CXT} {k : Nat} {B newId i : String} {bmB : List Value} {C fI : Addr} {fd : FuncData} {qual f par text : Str} {st : Stmt} (X : XBase B newId i bmB) (T : XC K C B newId i bmB)
    (S : XFn P K C fI fd qual (defArgs st) (defBody st) (defScope st)) (Z : XSt st f par) (Y : XSz st f par text) (nf : findIn K (.ref C) f = some none) (opq : nsIn K cStatics "thirdparty.any" = some none) (msup : mg "super" = none)
    (htop : (P.main.scope.names.lookup ("super" : Str)).isSome = false) : FnOk P w K mg base CX (k + 1) fI fd [("self" : Str), par] (xKeep C f text) := by
  obtain ⟨j, p0, p1, p2, p3, p4, p5, p6, p7, p8, eb, hev, hsx, hsw⟩ := Y
  rw [eb] at S
  exact init_keep X T S nf opq msup htop Z.ks Z.kc Z.kself Z.kpar Z.kind Z.cell Z.co Z.gen Z.par0 Z.ps Z.pd hev hsx hsw
/-- all that was tracked is tracked still -/
def All (H H' : Hp) : Prop := ∀ b o, H b = some o → H' b = some o
def tKx (C : Addr) (z : Str) (te : TE) : TE := fun σ H Q => te σ H fun y H1 => tNil σ H1 fun ys H2 => ∃ y2, y :: ys = [y2] ∧ ∀ a H3, H2 a = none → All H2 H3 → Kx H3 a C z → Q (.ref a) H3
section
variable {X : Cx} {x : Str} {C fI : Addr} {k : Nat} {fd : FuncData} {par f z : Str} {e : Expr} {te : TE} {p pos : Pos} {B i : String}
/-- C(v) as a value -/
theorem pe_kx (T : XC X.K C B "ValueError.__new__" i mroV) (iC : findIn X.K (.ref C) "__init__" = some (some (.ref fI))) (tI : typeIn X.K (.ref fI) = some (.type "function"))
    (F1 : FnOk X.prog X.w X.K X.mg X.base CX0 k fI fd [("self" : Str), par] (xKeep C f z)) (room : Room (k + 1) X.A) (hb : Binds X.K fd [("self" : Str), par] []) (hg : Gl X x) (hm : X.mg x = some (.ref C)) (he : PE X e te)
    (hdb : (x == ("__debug__" : Str)) = false := by decide) (hs : starEach [e] X.env = (false, eval e X.env) :: starEach [] X.env := by rfl) (hpl : (backTo pos (starEach [] X.env)).any (·.1) = false := by rfl) :
    PE X (.Call (.Name x p) [e] [] pos) (tKx C z te) := by
  constructor
  intro pins s σ H Q I h
  obtain ⟨nm, q, N, bs, bm, sn, sub, ab, col, dd, k0, k1, k2, k3, k5, hC, htail⟩ := T.cls
  have args : PA X [e] (tCons te tNil) := pa_cons he pa_nil hs
  refine wpAny_Call_Name_kw (ld_glob I hg hm ?_ hdb)
  refine PySem.W.callWith_K (h₀ := X.base) I.ok.mod.kin T.kC (thn (args.run pos pins s σ H (fun vs H1 => ∃ y, vs = [y] ∧ ∀ a H2, H1 a = none → All H1 H2 → Kx H2 a C z → Q (.ref a) H2) I h) ?_) hs hpl
  rintro us s1 ⟨vs, H1, I1, rel, y, rfl, q1⟩
  refine ⟨I1.kIn, ?_⟩
  show wpAny _ _ (call (.ref C) us) _ _ _
  obtain ⟨u, rfl, ru⟩ := vals1 rel
  obtain ⟨hp, g, dr, tk, os⟩ := s1
  have kk : ∀ b o, hp.get? b = some o → ((hp.push (PySem.W.kdv_tup [u])).push (PySem.HandSPX.excO C hp.objs.size)).get? b = some o := fun b o e =>
    Heap.get?_push_of_some _ (Heap.get?_push_of_some _ e)
  have fresh : H1 (hp.objs.size + 1) = none := I1.hok.fresh (Nat.le_succ _)
  have there : ((hp.push (PySem.W.kdv_tup [u])).push (PySem.HandSPX.excO C hp.objs.size)).get? (hp.objs.size + 1) = some (PySem.HandSPX.excO C hp.objs.size) := by heap_get
  have I2 : Inv X pins σ (upd H1 (hp.objs.size + 1) (exo (hp.objs.size + 1) C none)) ⟨(hp.push (PySem.W.kdv_tup [u])).push (PySem.HandSPX.excO C hp.objs.size), g, dr, tk, os⟩ :=
    I1.laid (t' := tk) kk (Nat.le_succ _) (exo_ok there)
  have want : xKeep C f z [V.ref (hp.objs.size + 1), y] (upd H1 (hp.objs.size + 1) (exo (hp.objs.size + 1) C none)) (fun v H3 => v = .non ∧ Q (.ref (hp.objs.size + 1)) H3) E0 := by
    refine ⟨_, y, rfl, upd_same, fun dx t1 hd hda ht hta htd => ⟨rfl, q1 _ _ fresh ?_ ?_⟩⟩
    · intro b o hbo
      have nb := ne_of_none hbo fresh
      rw [upd_ne hda] at hd
      rw [upd_ne hta] at ht
      rw [upd_ne nb, upd_ne (ne_of_none hbo hd), upd_ne (ne_of_none hbo ht), upd_ne nb]
      exact hbo
    · refine ⟨t1, dx, [(f, y)], upd_same, ?_, ?_⟩
      · rw [upd_ne hda, upd_same]
      · rw [upd_ne hta, upd_ne htd, upd_same]
  refine wpAny_call (PySem.HandSPX.call_own F.excBase_ValueError (fun Y => PySem.HandSPX.refsVE_contains Y bm (refs_tail htail)) (I1.kIn _ _ hC) (PySem.W.looks_findIn I1.kIn iC) (fun self => PySem.W.bind_fn I1.kIn self tI) (by rw [sizeLine_eq]; simp) ?_)
  have r2 : Vals [V.ref (hp.objs.size + 1), y] [Value.ref (hp.objs.size + 1), u] := .cons rfl (.cons ru .nil)
  refine codeAny_mono (F1.run _ X.stack _ _ ⟨[Value.ref (hp.objs.size + 1), u], []⟩ [Value.ref (hp.objs.size + 1), u] _ _ E0 (room.make C [u] []) (I2.env0.make C [u] []) ?_ r2 want) ?_
  · have b := hb _ [Value.ref (hp.objs.size + 1), u] I2.kIn (by simp)
    exact b
  intro r s' hq
  cases r with
  | error er => exact False.elim hq
  | ok fl =>
    cases fl with
    | ret v =>
      obtain ⟨v2, H2, J, rv, ev, q2⟩ := I2.after hq
      subst ev
      exact ⟨rv, V.ref (hp.objs.size + 1), H2, J, rfl, q2⟩
    | next => exact False.elim hq
    | brk => exact False.elim hq
    | cont => exact False.elim hq
end
end JgX
namespace JgX
open PySem PySem.W PySem.Calls PyProof.Rows PySem.Spec L2
theorem g_kx {C : Addr} {z : Str} {y : V} {σ : L2.St} {H : Hp} {Q : VK} (q : ∀ a H3, H a = none → All H H3 → Kx H3 a C z → Q (.ref a) H3) : tKx C z (tC y) σ H Q := ⟨_, rfl, q⟩
end JgX
namespace JgX
open PySem PySem.W PySem.Calls PyProof.Rows PySem.Spec
open Builtin Builtin.Str Builtin.BaseException Builtin.Exceptions
/-- what the written part says of such a class's text -/
structure XR (K : Frag) (C : Addr) (n : Str) : Prop where
  rp : findIn K (.ref C) "__repr__" = some (some (.builtin "BaseException.__repr__"))
  exC : subIn K (.ref C) (.type "BaseException") = some true
  cl : ∃ cd, clsIn K C = some cd ∧ cd.name = n
def kxHead (n : Str) : Str := Str.ofString ((n.toString.cutAt '.').getLastD "")
def kxText (n z : Str) : Str := kxHead n ++ Str.ofString "(" ++ reprText z ++ Str.ofString ")"
section
variable {prog : Program} {w : World} {A : Around} {E : Value → Shared → Prop} {s : Shared} {K : Frag} {C e t0 : Addr} {n z : Str} {tz : Tok}
theorem name_kx {Q : String → Shared → Prop} (x : ExcC K C e t0 s.heap) (R : XR K C n) (q : Q n.toString s) : wpAny (model prog w) A (typeNameOfWhole (.ref e)) Q E s := by
  obtain ⟨cd, hc, rfl⟩ := R.cl
  unfold typeNameOfWhole shownTypeOf
  refine wpAny_bind (wpAny_bind (x.LT.here ?_))
  rw [if_neg (show ¬ ((Value.ref C == Value.type "builtin_function_or_method") = true) by simp)]
  refine wpAny_pure ?_
  show wpAny _ _ (classData C >>= fun c => pure c.name.toString) _ _ _
  exact wpAny_bind ((looks_clsIn x.1 hc).here (wpAny_pure q))
theorem reprAt_kx (b : Nat) {Q : Fin → Shared → Prop} (x : ExcC K C e t0 s.heap) (R : XR K C n) (ht : s.heap.TupAt t0 [.str z tz]) (sz : b + (kxText n z).length ≤ sizeLine)
    (q : Q (.done (.ret (.str (kxText n z) (s.toks + 1)))) { s with toks := s.toks + 1 + 1 }) : wpAny (model prog w) A (Builtin.bexcReprAt b ⟨[.ref e], []⟩) Q E s := by
  have one : (Str.ofString "(").length = 1 := by rw [PySem.ofString_length]; rfl
  have l := sz
  unfold kxText kxHead at l
  rw [strLen_append, strLen_append, strLen_append, one] at l
  have l2 : (kxText n z).length ≤ sizeLine := by omega
  unfold kxText kxHead at l2
  have l3 : (reprText z).length ≤ sizeLine := by omega
  have l4 : b + ((Str.ofString ((n.toString.cutAt '.').getLastD "")).length + 1) ≤ sizeLine := by omega
  unfold Builtin.bexcReprAt
  repeat (first
    | with_reducible refine name_kx x R ?_
    | with_reducible refine bexcArgs_C x ht ?_
    | rw [pyReprUnder_leaf (v := .str z tz) l4 (by intro a; nofun)]
    | with_reducible refine wpAny_pyRepr_str ?_
    | wp_step)
  exact q
theorem special_by {M : Model} {last : Value → List Value → Sem Value} {v tp : Value} {name : Str} {i : String} {Q : Option Value → Shared → Prop} (hT : Looks M s.heap (typeOf v) tp) (hf : Looks M s.heap (typeLookup tp name) (some (.builtin i)))
    (hb : bindSpecial (.builtin i) v = pure (.builtin i, [v])) (run : wpAny M A (last (.builtin i) [v]) (fun r => Q (some r)) E s) : wpAny M A (callSpecialIfBoundBy? last v name) Q E s := by
  have ends : wpAny M A (last (.builtin i) [v] >>= fun r => pure (some r)) Q E s := wpAny_bind (wpAny_mono run (fun r s1 y => wpAny_pure y) fun _ _ y => y)
  unfold callSpecialIfBoundBy? bindSpecialIfBound? specialOf
  refine wpAny_holding (wpAny_bind (wpAny_bind (wpAny_bind (hT.here (hf.here ?_)))))
  simp only [hb]
  refine wpAny_bind (wpAny_askSetting (wpAny_ite ?_))
  split
  · exact wpAny_bind (wpAny_pure (wpAny_pure ends))
  · exact wpAny_tryCatch (wpAny_bind (wpAny_pure (wpAny_pure ends)))
theorem reprK_kx {h₀ : Heap} (kin : K.In h₀) (R : XR K C n) {o : Obj} {vs : Array Value} (he : h₀.get? e = some o) (hc : o.cls = .ref C) (hd : o.data = .fields vs) (h0 : vs[0]? = some (.ref t0)) (ht : h₀.TupAt t0 [.str z tz]) :
    ReprK prog w [] h₀ 1 (.ref e) (kxText n z) := by
  intro base sz A g E s Q hg hcl hu hk hQ
  have x : ExcC K C e t0 s.heap := ⟨kin.keeps hk, o, vs, hk _ _ he, hc, hd, h0⟩
  have ht2 : s.heap.TupAt t0 [.str z tz] := by
    obtain ⟨ot, k, hto, r⟩ := ht
    exact ⟨ot, k, hk _ _ hto, r⟩
  have hf : Looks (model prog w) s.heap (typeLookup (.ref C) "__repr__") (some (.builtin "BaseException.__repr__")) := looks_findIn x.1 R.rp
  refine wpAny_pyReprUnder_ref (by omega) ?_
  unfold pyReprObjUnder pyReprObjBy
  refine wpAny_bind (wpAny_cRoomFor (by omega) ?_)
  unfold specialOf
  refine wpAny_bind (wpAny_bind (x.LT.here ?_))
  refine hf.here ?_
  simp only [Option.isNone_some, Bool.false_eq_true, if_false]
  refine wpAny_bind (special_by x.LT hf (F.excStr_Exception.repr.bind _) ?_)
  show wpAny (model prog w) A (call (.builtin "BaseException.__repr__.under") [.ref e, rawInt ↑base]) _ _ _
  refine wpAny_call (codeAny_call_builtin F.plain_bexc_repr_under F.entry_bexc_repr_under ?_)
  rw [F.check_bexc_repr_under]
  refine wpAny_pure ?_
  unfold Builtin.«BaseException.__repr__.under»
  rw [reprTwin_eq]
  refine wpAny_bind (@PySem.W.check_slot (model prog w) _ _ s "BaseException.__repr__" "BaseException" "__repr__" (.ref e) [] [] _ (by decide +kernel) (by decide +kernel) (x.LI R.exC) (F.args_bexc_repr _) ?_)
  refine reprAt_kx base x R ht2 sz ?_
  show wpAny (model prog w) A _ _ _ _
  refine wpAny_bind (wpAny_isInstance (T := "str") (b := true) rfl isSubtype_str_str ?_)
  exact wpAny_pure ⟨_, _, rfl, hQ s.heap _ fun _ _ y => y⟩
end
end JgX
namespace JgX
open PySem PySem.W PySem.Calls PyProof.Rows PySem.Spec L2
/-! ### repr of a list that holds such -/
/-- data, or a dict of one text with a number, or none -/
def Dq (K : Frag) (H : Hp) (v : V) (d : PyData) : Prop := (Dp K H v d ∧ d.hasDict = false) ∨ ∃ a, v = .ref a ∧ ((H a = some (.dK []) ∧ d = .dict []) ∨ ∃ (x : Str) (i : Int), H a = some (.dK [(.inr x, .int i)]) ∧ d = .dict [(.str x, .int i)])
theorem Dq.reads {X : Cx} {pins : List (Addr × Obj)} {σ : L2.St} {H : Hp} {s : Shared} (I : Inv X pins σ H s) {v : V} {d : PyData} {u : Value} (h : Dq X.K H v d) (r : RelV v u) : ∃ as, Reads s.heap u d as ∧ (d.hasDict = true → sysModules ∉ as) := by
  rcases h with ⟨h, nd⟩ | ⟨a, rfl, h⟩
  · obtain ⟨as, q⟩ := Dp.reads I d v u h r
    exact ⟨as, q, fun z => by rw [nd] at z; cases z⟩
  obtain rfl : u = Value.ref a := r
  have away : ∀ kvs, H a = some (.dK kvs) → sysModules ∉ [a] := fun kvs e z => by
    have y := (I.hok a _ e).2.1
    rw [List.mem_singleton.mp z] at y
    simp at y
  rcases h with ⟨e, rfl⟩ | ⟨x, i, e, rfl⟩
  · obtain ⟨_, _, vs, kv, o, es, ep, ho, ⟨hc, _, _⟩, hd, _, pr, _⟩ := I.hok a _ e
    cases kv
    have ees : es.toList = [] := by
      cases hh : es.toList with
      | nil => rfl
      | cons y ys => rw [hh] at pr; cases pr
    refine ⟨[a], ?_, fun _ => away _ e⟩
    exact Reads.dict (as := []) (bs := []) ho hc hd (by rw [ees]; exact .nil) (by rw [ees]; exact .nil)
  · obtain ⟨_, _, vs, kv, o, es, ep, ho, ⟨hc, _, _⟩, hd, _, pr, _⟩ := I.hok a _ e
    cases kv with
    | @cons _ w0 _ ws h1 h2 =>
    cases h2
    obtain ⟨k1, w1⟩ := w0
    obtain ⟨e1, t, e2⟩ := h1
    have e1' : Sum.inr x = k1 := e1
    have e2' : w1 = Value.int i t := e2
    subst e1'
    subst e2'
    cases hh : es.toList with
    | nil => rw [hh] at pr; cases pr
    | cons y ys =>
      rw [hh] at pr
      cases pr with
      | cons p1 p2 p3 =>
      cases p3
      refine ⟨[a], ?_, fun _ => away _ e⟩
      rcases keyIs_shape (show keyIs (Sum.inr x) y.key = true from p1) with ⟨i', t', z, _⟩ | ⟨x', t', z, ek⟩
      · cases z
      · cases z
        refine Reads.dict (as := []) (bs := []) ho hc hd ?_ ?_
        · rw [hh]
          show ReadsAll s.heap [y.key] [.str x] []
          rw [ek]
          exact .cons (as := []) (bs := []) (.str _ _) .nil
        · rw [hh]
          show ReadsAll s.heap [y.val] [.int i] []
          rw [p2]
          exact .cons (as := []) (bs := []) (.int _ _) .nil
/-- what repr shows of it -/
def Sw (K : Frag) (H : Hp) (v : V) (t : Str) : Prop := (∃ d, Dq K H v d ∧ d.showable = true ∧ d.depth ≤ 20 ∧ d.shown = t ∧ t.length ≤ 100000) ∨ ∃ (a C : Addr) (n z : Str), v = .ref a ∧ Kx H a C z ∧ XR K C n ∧ kxText n z = t ∧ t.length ≤ 100000
theorem Sw.len {K : Frag} {H : Hp} {v : V} {t : Str} (h : Sw K H v t) : t.length ≤ 100000 := by
  rcases h with ⟨_, _, _, _, _, l⟩ | ⟨_, _, _, _, _, _, _, _, l⟩ <;> exact l
theorem deep_item {h : Heap} : ∀ {vs : List Value} {ds : List PyData} {as : List Addr}, ReadsAll h vs ds as → ∀ (i : Nat) (u : Value), vs[i]? = some u → ∃ d0 as0, Reads h u d0 as0 ∧ d0.depth ≤ PyData.depthAll ds
  | _, _, _, .nil, i, u, e => by simp at e
  | _, _, _, .cons (ds := ds) r rs, 0, u, e => by
    simp at e
    subst e
    exact ⟨_, _, r, by simp only [PyData.depthAll]; exact Nat.le_max_left _ _⟩
  | _, _, _, .cons (ds := ds) r rs, i + 1, u, e => by
    obtain ⟨d0, as0, q, l⟩ := deep_item rs i u (by simpa using e)
    exact ⟨d0, as0, q, Nat.le_trans l (by simp only [PyData.depthAll]; exact Nat.le_max_right _ _)⟩
theorem Sw.item {X : Cx} {pins : List (Addr × Obj)} {σ : L2.St} {H : Hp} {s : Shared} (I : Inv X pins σ H s) {p : Addr} {op : Obj} {its : List Value} {n : Nat} (hp : s.heap.get? p = some op) (hc : op.cls = .type "list") (hd : op.data = .seq its.toArray n)
    {i : Nat} {u : Value} {v : V} {t : Str} (mem : its[i]? = some u) (r : RelV v u) (h : Sw X.K H v t) : ∃ bs, p ∉ bs ∧ ReprK X.prog X.w bs s.heap 20 u t := by
  rcases h with ⟨d, h, sh, dep, rfl, l⟩ | ⟨a, C, nm, z, rfl, k, R, rfl, l⟩
  · obtain ⟨as, rd, no⟩ := h.reads I r
    obtain ⟨bs, rb, rk⟩ := ReprK.of_reads (prog := X.prog) (w := X.w) rd sh no (Nat.le_trans l (by decide))
    refine ⟨bs, fun hm => ?_, rk.level_le dep⟩
    obtain ⟨d2, as2, r2, l2⟩ := rb p hm
    cases r2 with
    | list q1 q2 q3 q4 =>
      rw [hp] at q1
      cases q1
      rw [hd] at q3
      cases q3
      obtain ⟨d0, as0, r0, l0⟩ := deep_item q4 i u (by simpa using mem)
      obtain ⟨ed, _⟩ := PyProof.Rows.reads_det (fun _ _ e _ => e) rd r0
      rw [ed] at l0
      simp only [PyData.depth] at l2
      omega
    | tuple q1 q2 q3 q4 =>
      rw [hp] at q1
      cases q1
      rw [hc] at q2
      injection q2 with z
      exact absurd z (by decide)
    | dict q1 q2 q3 q4 q5 =>
      rw [hp] at q1
      cases q1
      rw [hc] at q2
      injection q2 with z
      exact absurd z (by decide)
  · obtain rfl : u = Value.ref a := r
    obtain ⟨t1, dx, fs, ea, ed, et⟩ := k
    have ho : s.heap.get? a = some (keptObj C t1 dx) := (I.hok a _ ea).1
    obtain ⟨_, its2, vv, tu⟩ := I.hok t1 _ et
    cases vv with
    | cons v1 v2 =>
    cases v2
    obtain ⟨tz, rfl⟩ := v1
    obtain ⟨ot, hot, hct, nt, hdt⟩ := tu
    refine ⟨[], by simp, (reprK_kx I.kIn R ho rfl rfl rfl (tz := tz) ?_).level_le (by decide)⟩
    exact ⟨ot, nt, hot, hct, hdt⟩
def rShow (K : Frag) : List V → Hp → VK → Prop := fun xs H Q => ∃ (p : Addr) (v1 v2 v3 : V) (t1 t2 t3 : Str), xs = [.ref p] ∧ H p = some (.lst [v1, v2, v3]) ∧ Sw K H v1 t1 ∧ Sw K H v2 t2 ∧ Sw K H v3 t3 ∧ Q (.str (listText [t1, t2, t3])) H
theorem call_show {X : Cx} {K : Frag} (gua : X.A.guards = some []) (hu : X.A.units + 64 < cLine) (hK : X.K = K := by rfl) : CallR X (.builtin "repr") (rShow K) := by
  subst hK
  intro pins s σ H xs us Q I rel h
  obtain ⟨p, v1, v2, v3, t1, t2, t3, rfl, e, s1, s2, s3, q⟩ := h
  obtain ⟨u, rfl, ru⟩ := vals1 rel
  obtain rfl : u = Value.ref p := ru
  obtain ⟨_, its, n, vv, hp⟩ := I.hok p _ e
  cases vv with
  | @cons _ u1 _ _ r1 vv =>
  cases vv with
  | @cons _ u2 _ _ r2 vv =>
  cases vv with
  | @cons _ u3 _ _ r3 vv =>
  cases vv
  obtain ⟨b1, n1, k1⟩ := s1.item I hp rfl rfl (i := 0) rfl r1
  obtain ⟨b2, n2, k2⟩ := s2.item I hp rfl rfl (i := 1) rfl r2
  obtain ⟨b3, n3, k3⟩ := s3.item I hp rfl rfl (i := 2) rfl r3
  have sz : (listText [t1, t2, t3]).length ≤ sizeLine := by
    have a := listText_len_le [t1, t2, t3]
    have l1 := s1.len
    have l2 := s2.len
    have l3 := s3.len
    simp at a
    exact Nat.le_trans (show _ ≤ 400000 by omega) (by decide)
  have sub1 : ∀ b ∈ b1, b ∈ b1 ++ (b2 ++ b3) := fun b h => List.mem_append_left _ h
  have sub2 : ∀ b ∈ b2, b ∈ b1 ++ (b2 ++ b3) := fun b h => List.mem_append_right _ (List.mem_append_left _ h)
  have sub3 : ∀ b ∈ b3, b ∈ b1 ++ (b2 ++ b3) := fun b h => List.mem_append_right _ (List.mem_append_right _ h)
  have np : p ∉ b1 ++ (b2 ++ b3) := by
    simp only [List.mem_append, not_or]
    exact ⟨n1, n2, n3⟩
  refine call_repr_slot (by omega) ⟨_, hp, rfl⟩ F.slot_list_repr.toG ?_
  refine call_list_reprK (as := b1 ++ (b2 ++ b3)) (h₀ := s.heap) (d := 20) (ts := [t1, t2, t3]) hp rfl rfl np rfl ?_ gua (fun b _ => Clear.nil b) ?_ (fun _ _ y => y) ?_ sz
  · intro i y hy
    match i with
    | 0 => simp at hy; subst hy; exact ⟨t1, rfl, k1.more sub1⟩
    | 1 => simp at hy; subst hy; exact ⟨t2, rfl, k2.more sub2⟩
    | 2 => simp at hy; subst hy; exact ⟨t3, rfl, k3.more sub3⟩
    | i + 3 => simp at hy
  · show X.A.units + 1 + (20 + 1) < cLine
    omega
  · intro h' u tk keep
    exact ⟨_, _, rfl, .str (listText [t1, t2, t3]), H, I.kept keep, ⟨u, rfl⟩, q⟩
end JgX
namespace Jg
open PySem PySem.Spec L2 JgX
/-! ### things of any kind, standing while the bag at p is drawn from -/
mutual
/-- v is d there, by lists that aren't the bag -/
inductive Da (p : Addr) (H : Hp) : V → PyData → Prop
  | non : Da p H .non .none
  | bl (b : Bool) : Da p H (.bl b) (.bool b)
  | int (i : Int) : Da p H (.int i) (.int i)
  | str (z : Str) : Da p H (.str z) (.str z)
  | lst {a : Addr} {xs : List V} {ds : List PyData} : a ≠ p → H a = some (.lst xs) → DaAll p H xs ds → Da p H (.ref a) (.list ds)
  | tup {a : Addr} {xs : List V} {ds : List PyData} : a ≠ p → H a = some (.tup xs) → DaAll p H xs ds → Da p H (.ref a) (.tuple ds)
inductive DaAll (p : Addr) (H : Hp) : List V → List PyData → Prop
  | nil : DaAll p H [] []
  | cons {v : V} {vs : List V} {d : PyData} {ds : List PyData} : Da p H v d → DaAll p H vs ds → DaAll p H (v :: vs) (d :: ds)
end
mutual
theorem Da.mv {p : Addr} {H H' : Hp} (m : Mv p H H') : ∀ {v : V} {d : PyData}, Da p H v d → Da p H' v d
  | _, _, .non => .non
  | _, _, .bl b => .bl b
  | _, _, .int i => .int i
  | _, _, .str z => .str z
  | _, _, .lst n e r => .lst n (m _ _ n e) (DaAll.mv m r)
  | _, _, .tup n e r => .tup n (m _ _ n e) (DaAll.mv m r)
theorem DaAll.mv {p : Addr} {H H' : Hp} (m : Mv p H H') : ∀ {vs : List V} {ds : List PyData}, DaAll p H vs ds → DaAll p H' vs ds
  | _, _, .nil => .nil
  | _, _, .cons a r => .cons (Da.mv m a) (DaAll.mv m r)
end
mutual
theorem Da.dp {p : Addr} {H : Hp} (K : PySem.W.Frag) : ∀ {v : V} {d : PyData}, Da p H v d → Dp K H v d
  | _, _, .non => .non
  | _, _, .bl b => .bl b
  | _, _, .int i => .int i
  | _, _, .str z => .str z
  | _, _, .lst n e r => .lst (Or.inl (Or.inl e)) (DaAll.dp K r)
  | _, _, .tup n e r => .tup (Or.inl (Or.inl e)) (DaAll.dp K r)
theorem DaAll.dp {p : Addr} {H : Hp} (K : PySem.W.Frag) : ∀ {vs : List V} {ds : List PyData}, DaAll p H vs ds → DpAll K H vs ds
  | _, _, .nil => .nil
  | _, _, .cons a r => .cons (Da.dp K a) (DaAll.dp K r)
end
mutual
theorem Da.plain {p : Addr} {H : Hp} : ∀ {v : V} {d : PyData}, Da p H v d → d.hasDict = false
  | _, _, .non => by simp only [PyData.hasDict]
  | _, _, .bl b => by simp only [PyData.hasDict]
  | _, _, .int i => by simp only [PyData.hasDict]
  | _, _, .str z => by simp only [PyData.hasDict]
  | _, _, .lst n e r => by simp only [PyData.hasDict]; exact DaAll.plain r
  | _, _, .tup n e r => by simp only [PyData.hasDict]; exact DaAll.plain r
theorem DaAll.plain {p : Addr} {H : Hp} : ∀ {vs : List V} {ds : List PyData}, DaAll p H vs ds → PyData.hasDictAll ds = false
  | _, _, .nil => by simp only [PyData.hasDictAll]
  | _, _, .cons a r => by simp only [PyData.hasDictAll, Da.plain a, DaAll.plain r, Bool.or_self]
end
theorem DaAll.length {p : Addr} {H : Hp} : ∀ {vs : List V} {ds : List PyData}, DaAll p H vs ds → vs.length = ds.length
  | _, _, .nil => rfl
  | _, _, .cons _ r => by rw [List.length_cons, List.length_cons, DaAll.length r]
theorem DaAll.get {p : Addr} {H : Hp} : ∀ {vs : List V} {ds : List PyData}, DaAll p H vs ds → ∀ (i : Nat) (v : V), vs[i]? = some v → ∃ d, ds[i]? = some d ∧ Da p H v d
  | _, _, .nil, i, v, e => by simp at e
  | _, _, .cons a _, 0, v, e => by
    simp at e
    subst e
    exact ⟨_, rfl, a⟩
  | _, _, .cons _ r, i + 1, v, e => by
    obtain ⟨d, h1, h2⟩ := DaAll.get r i v (by simpa using e)
    exact ⟨d, by simpa using h1, h2⟩
theorem DaAll.app {p : Addr} {H : Hp} : ∀ {vs ws : List V} {ds es : List PyData}, DaAll p H vs ds → DaAll p H ws es → DaAll p H (vs ++ ws) (ds ++ es)
  | _, _, _, _, .nil, b => b
  | _, _, _, _, .cons a r, b => .cons a (DaAll.app r b)
theorem DaAll.cut {p : Addr} {H : Hp} : ∀ {vs : List V} {ds : List PyData} (n : Nat), DaAll p H vs ds → DaAll p H (vs.take n) (ds.take n) ∧ DaAll p H (vs.drop n) (ds.drop n)
  | _, _, 0, h => ⟨.nil, h⟩
  | _, _, n + 1, .nil => ⟨.nil, .nil⟩
  | _, _, n + 1, .cons a r => ⟨.cons a (DaAll.cut n r).1, (DaAll.cut n r).2⟩
/-- what is said of a class of exceptions: none of these kinds -/
structure Nk (K : PySem.W.Frag) (C : Addr) : Prop where
  xa : XA K C
  ki : PySem.W.kitOne K (.ref C) (.type "int") = some false
  ks : PySem.W.kitOne K (.ref C) (.type "str") = some false
  kt : PySem.W.kitOne K (.ref C) (.type "tuple") = some false
inductive Thing
  | dat (d : PyData)
  | exc (C : Addr) (n z : Str)
def Thing.who : Thing → Option Int
  | .dat (.int i) => some i
  | _ => none
def Thing.st : Thing → Option Str
  | .dat (.str z) => some z
  | _ => none
def Thing.tp : Thing → Option (List PyData)
  | .dat (.tuple ds) => some ds
  | _ => none
def Thing.txt : Thing → Str
  | .dat d => d.shown
  | .exc C n z => kxText n z
/-- not too many parts, none a dict, none too deep -/
def Fit (ds : List PyData) : Prop := ds.length ≤ 100 ∧ ∀ x ∈ ds, x.canLay0 = true ∧ x.depth ≤ 5
/-- a dict of one text with a number, or none -/
def Dd (H : Hp) (v : V) (d : PyData) : Prop := ∃ a, v = .ref a ∧ ((H a = some (.dK []) ∧ d = .dict []) ∨ ∃ (x : Str) (i : Int), H a = some (.dK [(.inr x, .int i)]) ∧ d = .dict [(.str x, .int i)])
def TgR (K : PySem.W.Frag) (p : Addr) (H : Hp) (v : V) : Thing → Prop
  | .dat d => (Da p H v d ∨ Dd H v d) ∧ d.showable = true ∧ d.depth ≤ 20 ∧ d.shown.length ≤ 100000 ∧ (∀ z, d = .str z → Sg z 2000) ∧ (∀ ds, d = .tuple ds → Fit ds)
  | .exc C n z => ∃ a, v = .ref a ∧ Kx H a C z ∧ (kxText n z).length ≤ 100000 ∧ Nk K C ∧ XR K C n
theorem bg_no {H : Hp} {p q : Addr} {n : Nat} {o : HO} (B : Bg H p n) (h : H q = some o) (d : ∀ xs, o ≠ HO.lst xs) : q ≠ p := fun z => by
  obtain ⟨a, b, c, e, _⟩ := B
  rw [z, e] at h
  cases h
  exact d _ rfl
theorem no_dK {kvs : List (Key × V)} : ∀ xs, HO.dK kvs ≠ HO.lst xs := fun xs z => by cases z
theorem no_tup {ys : List V} : ∀ xs, HO.tup ys ≠ HO.lst xs := fun xs z => by cases z
theorem no_frz {o : Obj} {u : HO} : ∀ xs, HO.frz o u ≠ HO.lst xs := fun xs z => by cases z
theorem no_exd {dx : Addr} {fs : List (Str × V)} : ∀ xs, exd dx fs ≠ HO.lst xs := fun xs z => by
  have z' : HO.ext _ = HO.lst xs := z
  cases z'
theorem TgR.mv {K : PySem.W.Frag} {p : Addr} {H H' : Hp} {v : V} {t : Thing} {n : Nat} (B : Bg H p n) (m : Mv p H H') (h : TgR K p H v t) : TgR K p H' v t := by
  cases t with
  | dat d =>
    refine ⟨?_, h.2⟩
    rcases h.1 with h | ⟨a, e, h⟩
    · exact Or.inl (h.mv m)
    · refine Or.inr ⟨a, e, ?_⟩
      rcases h with ⟨h, e2⟩ | ⟨x, i, h, e2⟩
      · exact Or.inl ⟨m _ _ (bg_no B h no_dK) h, e2⟩
      · exact Or.inr ⟨x, i, m _ _ (bg_no B h no_dK) h, e2⟩
  | exc C nm z =>
    obtain ⟨a, e, ⟨t1, dx, fs, h1, h2, h3⟩, r⟩ := h
    exact ⟨a, e, ⟨t1, dx, fs, m _ _ (bg_no B h1 no_frz) h1, m _ _ (bg_no B h2 no_exd) h2, m _ _ (bg_no B h3 no_tup) h3⟩, r⟩
theorem TgR.sw {K : PySem.W.Frag} {p : Addr} {H : Hp} {v : V} {t : Thing} (h : TgR K p H v t) : Sw K H v t.txt := by
  cases t with
  | dat d =>
    obtain ⟨h, h1, h2, h3, _⟩ := h
    refine Or.inl ⟨d, ?_, h1, h2, rfl, h3⟩
    rcases h with h | h
    · exact Or.inl ⟨h.dp K, h.plain⟩
    · exact Or.inr h
  | exc C nm z =>
    obtain ⟨a, e, k, l, _, r⟩ := h
    exact Or.inr ⟨a, C, nm, z, e, k, r, rfl, l⟩
def kindT : PyData → String
  | .none => "NoneType"
  | .bool _ => "bool"
  | .int _ => "int"
  | .str _ => "str"
  | .list _ => "list"
  | .tuple _ => "tuple"
  | .dict _ => "dict"
/-- by what each kind is an instance of -/
def kinds (T : String) : String → Bool := fun k => decide (k = T) || (decide (k = "bool") && decide (T = "int"))
theorem kindT_kit {T : String} {b : Bool} (d : PyData) (h : ((if T = "int" ∨ T = "str" ∨ T = "tuple" then kinds T (kindT d) else !b) = b)) : kitB (kindT d) T = some b := by
  by_cases c : T = "int" ∨ T = "str" ∨ T = "tuple"
  · rw [if_pos c] at h
    rw [← h]
    rcases c with rfl | rfl | rfl <;> cases d <;> (simp only [kindT]; decide +kernel)
  · rw [if_neg c] at h
    cases b <;> cases h
theorem TgR.kind {K : PySem.W.Frag} {p : Addr} {H : Hp} {v : V} {d : PyData} (h : Da p H v d ∨ Dd H v d) : ∃ ty, TyX K H v (.type ty) ∧ ty = kindT d := by
  rcases h with h | ⟨a, rfl, h⟩
  · cases h with
    | non => exact ⟨_, .base .non, rfl⟩
    | bl b => exact ⟨_, .base (.bl b), rfl⟩
    | int i => exact ⟨_, .base (.int i), rfl⟩
    | str z => exact ⟨_, .base (.str z), rfl⟩
    | lst n e r => exact ⟨_, .base (.lst e), rfl⟩
    | tup n e r => exact ⟨_, .base (.tup e), rfl⟩
  · rcases h with ⟨e, rfl⟩ | ⟨x, i, e, rfl⟩
    · exact ⟨_, .base (.dK e), rfl⟩
    · exact ⟨_, .base (.dK e), rfl⟩
theorem TgR.isW {K : PySem.W.Frag} {p : Addr} {H : Hp} {v : V} {t : Thing} (h : TgR K p H v t) : IsW K H v t.who := by
  cases t with
  | exc C n z =>
    obtain ⟨a, rfl, k, _, nk, _⟩ := h
    exact Or.inr (Isi.exc (Or.inr ⟨z, k⟩) nk.xa nk.ki)
  | dat d =>
    obtain ⟨ty, ht, e⟩ := TgR.kind (K := K) h.1
    cases d with
    | int i =>
      rcases h.1 with h | ⟨a, _, ⟨_, z⟩ | ⟨_, _, _, z⟩⟩
      · cases h; exact rfl
      · cases z
      · cases z
    | bool b =>
      rcases h.1 with h | ⟨a, _, ⟨_, z⟩ | ⟨_, _, _, z⟩⟩
      · cases h; exact Or.inl ⟨b, rfl⟩
      · cases z
      · cases z
    | none => subst e; exact Or.inr (Isi.of ht (kindT_kit _ (by rfl)))
    | str z => subst e; exact Or.inr (Isi.of ht (kindT_kit _ (by rfl)))
    | list ds => subst e; exact Or.inr (Isi.of ht (kindT_kit _ (by rfl)))
    | tuple ds => subst e; exact Or.inr (Isi.of ht (kindT_kit _ (by rfl)))
    | dict ds => subst e; exact Or.inr (Isi.of ht (kindT_kit _ (by rfl)))
theorem TgR.isS {K : PySem.W.Frag} {p : Addr} {H : Hp} {v : V} {t : Thing} (h : TgR K p H v t) : IsS K H 2000 v t.st := by
  cases t with
  | exc C n z =>
    obtain ⟨a, rfl, k, _, nk, _⟩ := h
    exact Isi.exc (Or.inr ⟨z, k⟩) nk.xa nk.ks
  | dat d =>
    obtain ⟨ty, ht, e⟩ := TgR.kind (K := K) h.1
    cases d with
    | str z =>
      have sg := h.2.2.2.2.1 z rfl
      rcases h.1 with h | ⟨a, _, ⟨_, z⟩ | ⟨_, _, _, z⟩⟩
      · cases h; exact ⟨rfl, sg⟩
      · cases z
      · cases z
    | int i => subst e; exact Isi.of ht (kindT_kit _ (by rfl))
    | bool b => subst e; exact Isi.of ht (kindT_kit _ (by rfl))
    | none => subst e; exact Isi.of ht (kindT_kit _ (by rfl))
    | list ds => subst e; exact Isi.of ht (kindT_kit _ (by rfl))
    | tuple ds => subst e; exact Isi.of ht (kindT_kit _ (by rfl))
    | dict ds => subst e; exact Isi.of ht (kindT_kit _ (by rfl))
/-- a tuple, or none -/
def IsP (K : PySem.W.Frag) (p : Addr) (H : Hp) (v : V) : Option (List PyData) → Prop
  | some ds => ∃ a xs, v = .ref a ∧ a ≠ p ∧ H a = some (.tup xs) ∧ DaAll p H xs ds ∧ Fit ds ∧ Isi K H v "tuple" true
  | none => Isi K H v "tuple" false
theorem TgR.isP {K : PySem.W.Frag} {p : Addr} {H : Hp} {v : V} {t : Thing} (h : TgR K p H v t) : IsP K p H v t.tp := by
  cases t with
  | exc C n z =>
    obtain ⟨a, rfl, k, _, nk, _⟩ := h
    exact Isi.exc (Or.inr ⟨z, k⟩) nk.xa nk.kt
  | dat d =>
    obtain ⟨ty, ht, e⟩ := TgR.kind (K := K) h.1
    cases d with
    | tuple ds =>
      have l := h.2.2.2.2.2 ds rfl
      rcases h.1 with h | ⟨a, _, ⟨_, z⟩ | ⟨_, _, _, z⟩⟩
      · cases h with
        | tup n e2 r => subst e; exact ⟨_, _, rfl, n, e2, r, l, Isi.of ht (kindT_kit _ (by rfl))⟩
      · cases z
      · cases z
    | str z => subst e; exact Isi.of ht (kindT_kit _ (by rfl))
    | int i => subst e; exact Isi.of ht (kindT_kit _ (by rfl))
    | bool b => subst e; exact Isi.of ht (kindT_kit _ (by rfl))
    | none => subst e; exact Isi.of ht (kindT_kit _ (by rfl))
    | list ds => subst e; exact Isi.of ht (kindT_kit _ (by rfl))
    | dict ds => subst e; exact Isi.of ht (kindT_kit _ (by rfl))
/-- each thing of a list by what it is as a number -/
theorem Da.isW {K : PySem.W.Frag} {p : Addr} {H : Hp} {v : V} {d : PyData} (h : Da p H v d) : IsW K H v (Thing.who (.dat d)) := by
  obtain ⟨ty, ht, e⟩ := TgR.kind (K := K) (Or.inl h)
  cases h with
  | int i => exact rfl
  | bl b => exact Or.inl ⟨b, rfl⟩
  | non => subst e; exact Or.inr (Isi.of ht (kindT_kit _ (by rfl)))
  | str z => subst e; exact Or.inr (Isi.of ht (kindT_kit _ (by rfl)))
  | lst _ _ _ => subst e; exact Or.inr (Isi.of ht (kindT_kit _ (by rfl)))
  | tup _ _ _ => subst e; exact Or.inr (Isi.of ht (kindT_kit _ (by rfl)))
def rNotInT (K : PySem.W.Frag) : R2 := rIn K true
theorem op_notInTV {X : Cx} {K : PySem.W.Frag} (hK : X.K = K := by rfl) : OpR X (compareOp .NotIn) (rNotInT K) := by
  subst hK
  exact op_notIn_seq
theorem Fit.shaped {ds es : List PyData} (h : Fit ds) (s : ∀ x ∈ es, x ∈ ds) : SeqAt.shaped (.list es) = true := by
  have key : ∀ l : List PyData, (∀ x ∈ l, x.canLay0 = true ∧ x.depth ≤ 5) → PyData.canLayAll0 l = true ∧ PyData.depthAll l ≤ 5 := by
    intro l
    induction l with
    | nil => exact fun _ => ⟨rfl, by simp [PyData.depthAll]⟩
    | cons y ys ih =>
      intro q
      obtain ⟨h1, h2⟩ := ih fun x hx => q x (List.mem_cons_of_mem _ hx)
      obtain ⟨h3, h4⟩ := q y List.mem_cons_self
      refine ⟨by simp [PyData.canLayAll0, h1, h3], ?_⟩
      simp only [PyData.depthAll]
      omega
  obtain ⟨h1, h2⟩ := key es fun x hx => h.2 x (s x hx)
  unfold SeqAt.shaped
  rw [Bool.and_eq_true, decide_eq_true_eq]
  refine ⟨by simp [PyData.canLay0, h1], ?_⟩
  simp only [PyData.depth]
  omega
end Jg
namespace Jg
open PySem PySem.Spec L2 JgX
/-! ### comprehensions over a tuple or a list, whose parts may lay new things -/
def sel (P : Nat → Bool) (F : Nat → V) (n : Nat) : List V := ((List.range n).filter P).map F
theorem sel_zero (P : Nat → Bool) (F : Nat → V) : sel P F 0 = [] := rfl
theorem sel_succ (P : Nat → Bool) (F : Nat → V) (n : Nat) : sel P F (n + 1) = sel P F n ++ (if P n = true then [F n] else []) := by
  unfold sel
  rw [List.range_succ, List.filter_append, List.map_append]
  congr 1
  cases h : P n <;> simp [h]
theorem sel_len (P : Nat → Bool) (F : Nat → V) (n : Nat) : (sel P F n).length ≤ n := by
  unfold sel
  rw [List.length_map]
  exact Nat.le_trans (List.length_filter_le _ _) (by simp)
section
variable {K : PySem.W.Frag} {σ : L2.St} {H : Hp} {Q : VK} {te : TE} {tt : TT} {i : Nat} {a : Addr} {xs : List V}
theorem lc_tupG (P : Nat → Bool) (F : Nat → V) (sq : H a = some (.tup xs)) (hn : xs.length < sizeLine) (wv : ∀ x, wipe ((wipe σ [i]).set i (some x)) [i] = wipe σ [i])
    (hp : ∀ (j : Nat) (x : V) (H2 : Hp) (B : Bool → Hp → Prop), xs[j]? = some x → Same H H2 → (∀ H3, Same H2 H3 → B (P j) H3) → tt ((wipe σ [i]).set i (some x)) H2 B)
    (hs : ∀ (j : Nat) (x : V) (H2 : Hp) (R : VK), xs[j]? = some x → Same H H2 → (∀ H3, Same H2 H3 → R (F j) H3) → te ((wipe σ [i]).set i (some x)) H2 R)
    (q : ∀ D H', H D = none → Same H H' → H' D = some (.lst (sel P F xs.length)) → Q (.ref D) H') : lcB (gName i) tt te [i] σ Q (Itt K a) H := by
  intro D hD
  refine lc_it (n := xs.length) (walk_tup (xs := xs)) (fun j H2 => Same H H2 ∧ (∃ more, H2 D = some (.lst more) ∧ more = sel P F j)) ⟨fun b o e => by rw [upd_ne (ne_of_none e hD)]; exact e, _, upd_same, rfl⟩ (fun j H2 hj h => Or.inl (Or.inl (h.1 _ _ sq))) ?_ ?_
  · rintro j x H2 H3 hj ⟨sm, more, hm, rfl⟩ ⟨rfl, hx⟩
    have hx2 : xs[j]? = some x := hx
    refine ⟨wv x, ?_⟩
    refine hp j x _ _ hx2 sm (fun H4 s4 => ?_)
    by_cases c : P j = true
    · rw [if_pos c]
      refine hs j x _ _ hx2 (fun b o e => s4 _ _ (sm _ _ e)) (fun H5 s5 => ?_)
      have hD5 := s5 _ _ (s4 _ _ hm)
      refine ⟨_, hD5, Nat.lt_of_le_of_lt (sel_len P F j) (Nat.lt_trans hj hn), ?_, _, upd_same, ?_⟩
      · intro b o e
        rw [upd_ne (ne_of_none e hD)]
        exact s5 _ _ (s4 _ _ (sm _ _ e))
      · rw [sel_succ, if_pos c]
    · rw [if_neg c]
      refine ⟨fun b o e => s4 _ _ (sm _ _ e), _, s4 _ _ hm, ?_⟩
      rw [sel_succ, if_neg c, List.append_nil]
  · rintro H2 ⟨sm, more, hm, rfl⟩
    exact q D H2 hD sm hm
end
end Jg
namespace Jg
open PySem PySem.Spec L2 JgX
theorem g_notInT {K : PySem.W.Frag} {H : Hp} {Q : VK} {x : V} {p : Addr} {xs : List V} (h : SqT K H p xs) (fx : flatV x = true) (fs : xs.all flatV = true) (q : Q (.bl (!inV x xs)) H) : rNotInT K x (.ref p) H Q := ⟨p, xs, rfl, Or.inr h, fx, fs, q⟩
/-- [f(k) for k in range(n)], nothing laid -/
theorem lc_rngF {σ : L2.St} {H : Hp} {Q : VK} {te : TE} {i n : Nat} (F : Nat → V) (hn : n < sizeLine) (wv : ∀ x, wipe ((wipe σ [i]).set i (some x)) [i] = wipe σ [i])
    (hs : ∀ (j : Nat) (H2 : Hp) (R : VK), j < n → Same H H2 → R (F j) H2 → te ((wipe σ [i]).set i (some (.int (0 + (j : Nat))))) H2 R)
    (q : ∀ D, H D = none → Q (.ref D) (upd H D (.lst ((List.range n).map F)))) : lcB (gName i) tYes te [i] σ Q (Itr 0 n) H := by
  intro D hD
  refine lc_it (n := n) walk_range (fun j H2 => H2 = upd H D (.lst ((List.range j).map F))) rfl (fun _ _ _ _ => trivial) ?_ ?_
  · rintro j x H2 H3 hj rfl ⟨rfl, rfl⟩
    refine ⟨wv _, ?_⟩
    with_reducible refine g_tyes ?_
    with_reducible refine g_true ?_
    refine hs j _ _ hj (fun b o e => by rw [upd_ne (ne_of_none e hD)]; exact e) ?_
    refine ⟨_, upd_same, by simp; omega, ?_⟩
    rw [upd_upd, List.range_succ, List.map_append]
    rfl
  · rintro H2 rfl
    exact q D hD
/-- a list of texts, held against the empty one -/
theorem g_texts0 {K : PySem.W.Frag} {H : Hp} {Q : VK} {p q : Addr} {ys : List Str} (h1 : H p = some (.lst (ys.map V.str))) (h2 : H q = some (.lst [])) (ok : ∀ y ∈ ys, PyData.strOk y = true) (r : Q (.bl ys.isEmpty) H) : rEqD K (.ref p) (.ref q) H Q := by
  refine ⟨.list (ys.map .str), .list [], .lst (Or.inl (Or.inl h1)) (dp_texts K H ys), .lst (Or.inl (Or.inl h2)) .nil, shaped_texts ok, rfl, ?_⟩
  cases ys with
  | nil => exact r
  | cons y ys => exact r
/-- parts of a list, held against the empty one -/
theorem g_data0 {K : PySem.W.Frag} {H : Hp} {Q : VK} {p q : Addr} {xs : List V} {es : List PyData} (h1 : H p = some (.lst xs)) (h2 : H q = some (.lst [])) (d : DpAll K H xs es) (sh : SeqAt.shaped (.list es) = true) (r : Q (.bl xs.isEmpty) H) : rEqD K (.ref p) (.ref q) H Q := by
  refine ⟨.list es, .list [], .lst (Or.inl (Or.inl h1)) d, .lst (Or.inl (Or.inl h2)) .nil, sh, rfl, ?_⟩
  cases d with
  | nil => exact r
  | cons a b => exact r
end Jg
namespace Jg
open PySem PySem.Spec L2 JgX
theorem all_bg {H H' : Hp} {p : Addr} {n : Nat} (s : All H H') (B : Bg H p n) : Bg H' p n := by
  obtain ⟨a, b, c, e, r⟩ := B
  exact ⟨a, b, c, s _ _ e, r⟩
theorem all_mv {H H' : Hp} (p : Addr) (s : All H H') : Mv p H H' := fun b o _ e => s b o e
end Jg
namespace Jg
open PySem PySem.Spec L2 JgX
section
variable {K : PySem.W.Frag} {H : Hp} {Q : VK}
theorem g_slL {a : Addr} {xs : List V} {l h : Option Int} (sq : H a = some (.lst xs)) (q : ∀ p, H p = none → Q (.ref p) (upd H p (.lst (cutV xs l h)))) : rSlL K (.ref a) l h H Q := ⟨a, xs, rfl, Or.inl (Or.inl sq), q⟩
theorem g_cat {a b : Addr} {xs zs : List V} (h1 : H a = some (.lst xs)) (h2 : H b = some (.lst zs)) (hz : xs.length + zs.length ≤ sizeLine) (q : ∀ p, H p = none → Q (.ref p) (upd H p (.lst (xs ++ zs)))) : rCat (.ref a) (.ref b) H Q := ⟨a, b, xs, zs, rfl, rfl, h1, h2, hz, q⟩
theorem g_tupOf {a : Addr} {xs : List V} (sq : H a = some (.lst xs)) (q : ∀ l, H l = none → Q (.ref l) (upd H l (.tup xs))) : ∃ p ys, [V.ref a] = [.ref p] ∧ ((SqL K H p ys ∧ ∀ l, H l = none → Q (.ref l) (upd H l (.tup ys))) ∨ (SqT K H p ys ∧ Q (.ref p) H)) := ⟨a, xs, rfl, Or.inl ⟨Or.inl (Or.inl sq), q⟩⟩
end
theorem cutV_sub {xs : List V} {l h : Option Int} : (∀ v ∈ cutV xs l h, v ∈ xs) ∧ (cutV xs l h).length ≤ xs.length := by
  unfold cutV
  refine ⟨fun v hv => List.mem_of_mem_drop (List.mem_of_mem_take hv), ?_⟩
  rw [List.length_take, List.length_drop]
  omega
/-- a small thing: what stands in a spot -/
def smD (d : PyData) : Bool := d.showable && decide (d.depth ≤ 2) && decide (d.shown.length ≤ 40) && d.canLay0
def SmV (p : Addr) (H : Hp) (v : V) : Prop := ∃ d, Da p H v d ∧ smD d = true
theorem SmV.mv {p : Addr} {H H' : Hp} {v : V} (m : Mv p H H') (h : SmV p H v) : SmV p H' v := by
  obtain ⟨d, a, b⟩ := h
  exact ⟨d, a.mv m, b⟩
theorem sm_all {p : Addr} {H : Hp} : ∀ {vs : List V}, (∀ v ∈ vs, SmV p H v) → ∃ ds, DaAll p H vs ds ∧ (∀ d ∈ ds, smD d = true) ∧ ds.length = vs.length
  | [], _ => ⟨[], .nil, by simp, rfl⟩
  | v :: vs, h => by
    obtain ⟨d, h1, h2⟩ := h v List.mem_cons_self
    obtain ⟨ds, h3, h4, h5⟩ := sm_all fun v hv => h v (List.mem_cons_of_mem _ hv)
    refine ⟨d :: ds, .cons h1 h3, fun x hx => ?_, by simp [h5]⟩
    rcases List.mem_cons.mp hx with rfl | hx
    · exact h2
    · exact h4 _ hx
theorem sm_shown : ∀ {ds : List PyData}, (∀ d ∈ ds, smD d = true) → PyData.showableAll ds = true ∧ PyData.depthAll ds ≤ 2 ∧ ((PyData.shownAll ds).map (·.length)).sum ≤ ds.length * 40 ∧ (PyData.shownAll ds).length = ds.length
  | [], _ => ⟨rfl, by simp [PyData.depthAll], by simp [PyData.shownAll], rfl⟩
  | d :: ds, h => by
    obtain ⟨h1, h2, h3, h4⟩ := sm_shown fun v hv => h v (List.mem_cons_of_mem _ hv)
    have h5 := h d List.mem_cons_self
    unfold smD at h5
    rw [Bool.and_eq_true, Bool.and_eq_true, Bool.and_eq_true, decide_eq_true_eq, decide_eq_true_eq] at h5
    obtain ⟨⟨⟨a1, a2⟩, a3⟩, a4⟩ := h5
    refine ⟨by simp only [PyData.showableAll, a1, h1, Bool.and_self], ?_, ?_, by simp only [PyData.shownAll, List.length_cons, h4]⟩
    · simp only [PyData.depthAll]
      exact Nat.max_le.mpr ⟨a2, h2⟩
    · simp only [PyData.shownAll, List.map_cons, List.sum_cons, List.length_cons]
      omega
/-- what is told of data at once -/
theorem sm_tup {K : PySem.W.Frag} {p a : Addr} {H : Hp} {vs : List V} (n : a ≠ p) (e : H a = some (.tup vs)) (h : ∀ v ∈ vs, SmV p H v) (l : vs.length ≤ 60) : ∃ t, TgR K p H (.ref a) t := by
  obtain ⟨ds, h1, h2, h3⟩ := sm_all h
  obtain ⟨h4, h5, h6, h7⟩ := sm_shown h2
  have h8 := tupleText_len_le (PyData.shownAll ds)
  refine ⟨.dat (.tuple ds), Or.inl (.tup n e h1), by simpa only [PyData.showable] using h4, by simp only [PyData.depth]; omega, ?_, fun z hz => by (cases hz), fun es he => ?_⟩
  · show (tupleText (PyData.shownAll ds)).length ≤ _
    omega
  · cases he
    refine ⟨by omega, fun x hx => ?_⟩
    have := h2 x hx
    unfold smD at this
    rw [Bool.and_eq_true, Bool.and_eq_true, Bool.and_eq_true, decide_eq_true_eq, decide_eq_true_eq] at this
    exact ⟨this.2, by omega⟩
theorem sm_lst {K : PySem.W.Frag} {p a : Addr} {H : Hp} {vs : List V} (n : a ≠ p) (e : H a = some (.lst vs)) (h : ∀ v ∈ vs, SmV p H v) (l : vs.length ≤ 60) : ∃ t, TgR K p H (.ref a) t := by
  obtain ⟨ds, h1, h2, h3⟩ := sm_all h
  obtain ⟨h4, h5, h6, h7⟩ := sm_shown h2
  have h8 := listText_len_le (PyData.shownAll ds)
  refine ⟨.dat (.list ds), Or.inl (.lst n e h1), by simpa only [PyData.showable] using h4, by simp only [PyData.depth]; omega, ?_, fun z hz => by (cases hz), fun es he => by (cases he)⟩
  show (listText (PyData.shownAll ds)).length ≤ _
  omega
/-! ### a number or a truth and a number -/
def IntB (x : V) (i : Int) : Prop := x = .int i ∨ ∃ b : Bool, x = .bl b ∧ i = if b = true then 1 else 0
def rAddA : R2 := fun x y H Q => ∃ i j, IntB x i ∧ y = .int j ∧ Q (.int (i + j)) H
theorem op_addA {X : Cx} : OpR X (binaryOp .Add) rAddA := by
  intro pins s σ H x y v u Q I rx ry h
  obtain ⟨i, j, hx, rfl, q⟩ := h
  obtain ⟨t, rfl⟩ := ry
  rcases hx with rfl | ⟨b, rfl, rfl⟩
  · obtain ⟨t2, rfl⟩ := rx
    exact PyProof.Rows.add_int ⟨.int (i + j), H, I.tok _, ⟨_, rfl⟩, q⟩
  · cases rx
    exact PySem.IntBool.add_bool_int ⟨.int ((if b = true then 1 else 0) + j), H, I.tok _, ⟨_, rfl⟩, q⟩
theorem g_addA {x : V} {i j : Int} {H : Hp} {Q : VK} (h : IntB x i) (q : Q (.int (i + j)) H) : rAddA x (.int j) H Q := ⟨i, j, h, rfl, q⟩
theorem TgR.isI {K : PySem.W.Frag} {p : Addr} {H : Hp} {v : V} {t : Thing} (h : TgR K p H v t) : ∃ b, Isi K H v "int" b ∧ (b = true → ∃ i, IntB v i) := by
  have w := h.isW
  cases e : t.who with
  | some i =>
    rw [e] at w
    have w : v = .int i := w
    subst w
    exact ⟨true, isi_i i, fun _ => ⟨i, Or.inl rfl⟩⟩
  | none =>
    rw [e] at w
    rcases w with ⟨b, rfl⟩ | w
    · exact ⟨true, isi_b b, fun _ => ⟨_, Or.inr ⟨b, rfl, rfl⟩⟩⟩
    · exact ⟨false, w, fun z => by cases z⟩
theorem tg_int {K : PySem.W.Frag} {p : Addr} {H : Hp} {z : Int} (h0 : -1000000000000000000000000000000 ≤ z) (h1 : z ≤ 1000000000000000000000000000000) : TgR K p H (.int z) (.dat (.int z)) := by
  have lg : z.natAbs.log2 < 1920 := by
    have a : z.natAbs ≤ 1000000000000000000000000000000 := by omega
    by_cases c : z.natAbs = 0
    · rw [c]
      decide
    · rw [Nat.log2_lt c]
      exact Nat.lt_of_le_of_lt a (by decide +kernel)
  refine ⟨Or.inl (.int z), by simpa only [PyData.showable, decide_eq_true_eq] using lg, by simp only [PyData.depth]; omega, ?_, fun y hy => by (cases hy), fun y hy => by (cases hy)⟩
  exact Nat.le_trans (PyProof.Rows.int_text_len_1921 lg) (by decide : 1921 ≤ 100000)
theorem tg_str {K : PySem.W.Frag} {p : Addr} {H : Hp} {z : Str} (h : Sg z 200) : TgR K p H (.str z) (.dat (.str z)) := by
  refine ⟨Or.inl (.str z), by simp only [PyData.showable], by simp only [PyData.depth]; omega, ?_, fun y hy => by (cases hy; exact h.mono (by decide)), fun y hy => by (cases hy)⟩
  have l := StrLaws.reprText_len z fun c hc => Nat.lt_trans (h.2 c hc) (by decide)
  have l2 := h.1
  show (reprText z).length ≤ _
  omega
/-- one of two, by a truth -/
theorem g_ite {c : Bool} {x y : V} {H : Hp} {Q : VK} (q : Q (if c = true then x else y) H) : if c = true then Q x H else Q y H := by
  cases c
  · exact q
  · exact q
theorem g_iteV {c : Bool} {i : Nat} {σ : L2.St} {v y : V} {H : Hp} {Q : VK} (e : σ[i]? = some (some v)) (q : Q (if c = true then v else y) H) : if c = true then tVar i σ H Q else tC y σ H Q := by
  cases c
  · exact q
  · exact ⟨v, e, q⟩
theorem g_cut {te : TE} {σ : L2.St} {H : Hp} {Q : VK} (R : V → Hp → Prop) (h : ∀ Q : VK, (∀ v H', R v H' → Q v H') → te σ H Q) (q : ∀ v H', R v H' → Q v H') : te σ H Q := h Q q
theorem same_mv {H H' : Hp} (p : Addr) (s : Same H H') : Mv p H H' := fun b o _ e => s b o e
end Jg
namespace Jg
open PySem PySem.Spec L2 JgX
/-! ### tuples of numbers and texts, which is ahead -/
def leafLt : V → V → Bool
  | .int i, .int j => decide (i < j)
  | .str a, .str b => decide (a.cps.toList < b.cps.toList)
  | _, _ => false
def alike : V → V → Bool
  | .int _, .int _ => true
  | .str _, .str _ => true
  | _, _ => false
def lexV (xs ys : List V) : Bool := Ob.lexAt (fun j => decide (xs.getD j .non = ys.getD j .non)) (fun j => leafLt (xs.getD j .non) (ys.getD j .non)) (decide (xs.length < ys.length)) 0 (min xs.length ys.length)
def pairsAlike (xs ys : List V) : Prop := ∀ j, j < xs.length → j < ys.length → alike (xs.getD j .non) (ys.getD j .non) = true
def rOrdT (K : PySem.W.Frag) (f : List V → List V → Bool) : R2 := fun x y H Q => ∃ a b xs ys, x = .ref a ∧ y = .ref b ∧ SqT K H a xs ∧ SqT K H b ys ∧ pairsAlike xs ys ∧ Q (.bl (f xs ys)) H
section
variable {A : Around} {s : Shared} {u v : V} {a b : Value}
theorem leaf_eq (ra : RelV u a) (rb : RelV v b) (h : alike u v = true) : SeqAt.EqAt A s a b (decide (u = v)) := by
  cases u <;> cases v <;> try (cases h)
  · rename_i i j
    obtain ⟨t, rfl⟩ := ra
    obtain ⟨t', rfl⟩ := rb
    have e : decide (V.int i = V.int j) = (i == j) := dec_int
    rw [e]
    exact SeqAt.EqAt.int_int _ _ _ _
  · rename_i x y
    obtain ⟨t, rfl⟩ := ra
    obtain ⟨t', rfl⟩ := rb
    have e : decide (V.str x = V.str y) = (x == y) := dec_str
    rw [e]
    exact SeqAt.EqAt.str_str _ _ _ _
theorem leaf_lt (ra : RelV u a) (rb : RelV v b) (h : alike u v = true) : Ob.RcOp .Lt A s a b (leafLt u v) := by
  cases u <;> cases v <;> try (cases h)
  · obtain ⟨t, rfl⟩ := ra
    obtain ⟨t', rfl⟩ := rb
    exact Ob.RcOp.lt_int _ _ _ _
  · obtain ⟨t, rfl⟩ := ra
    obtain ⟨t', rfl⟩ := rb
    exact fun _ _ _ _ q => PySem.P.lt_str q
theorem leaf_gt (ra : RelV u a) (rb : RelV v b) (h : alike u v = true) : Ob.RcOp .Gt A s a b (leafLt v u) := by
  cases u <;> cases v <;> try (cases h)
  · obtain ⟨t, rfl⟩ := ra
    obtain ⟨t', rfl⟩ := rb
    exact Ob.RcOp.gt_int _ _ _ _
  · obtain ⟨t, rfl⟩ := ra
    obtain ⟨t', rfl⟩ := rb
    exact fun _ _ _ _ q => PySem.P.gt_str q
end
theorem vals_at {xs : List V} {us : List Value} (r : Vals xs us) (j : Nat) (h : j < us.toArray.size) : RelV (xs.getD j .non) us.toArray[j] := by
  have l := r.length
  have hj : j < us.length := by simpa using h
  have hx : j < xs.length := by omega
  obtain ⟨u, hu, ru⟩ := r.get (i := j) (x := xs[j]) (by simp [hx])
  have e1 : xs.getD j .non = xs[j] := by simp [hx]
  have e2 : us.toArray[j] = u := by
    have : us[j]? = some us[j] := by simp [hj]
    rw [this] at hu
    simpa using hu
  rw [e1, e2]
  exact ru
theorem op_ltV {X : Cx} {K : PySem.W.Frag} (hu : X.A.units < cLine) (hK : X.K = K := by rfl) : OpR X (compareOp .Lt) (rOrdT K lexV) := by
  subst hK
  intro pins s σ H x y v u Q I rx ry h
  obtain ⟨a, b, xs, ys, rfl, rfl, ha, hb, al, q⟩ := h
  cases rx
  cases ry
  obtain ⟨is1, r1, p1, _⟩ := I.tuple ha
  obtain ⟨is2, r2, p2, _⟩ := I.tuple hb
  have l1 := r1.length
  have l2 := r2.length
  have key := Ob.RcOp.tuples_lt (A := X.A) (s := s) (e := fun j => decide (xs.getD j .non = ys.getD j .non)) (r := fun j => leafLt (xs.getD j .non) (ys.getD j .non)) p1 p2 hu
    (fun j j1 j2 => leaf_eq (vals_at r1 j j1) (vals_at r2 j j2) (al j (by simp at j1; omega) (by simp at j2; omega)))
    (fun j j1 j2 _ => leaf_lt (vals_at r1 j j1) (vals_at r2 j j2) (al j (by simp at j1; omega) (by simp at j2; omega)))
  rw [List.size_toArray, List.size_toArray, ← l1, ← l2] at key
  exact (key X.prog X.w X.xe (EP X pins σ Q) ⟨.bl _, H, I, rfl, q⟩ : wpAny (model X.prog X.w) X.A (compareOp .Lt (.ref a) (.ref b)) (EP X pins σ Q) X.xe s)
theorem op_gtV {X : Cx} {K : PySem.W.Frag} (hu : X.A.units < cLine) (hK : X.K = K := by rfl) : OpR X (compareOp .Gt) (rOrdT K fun xs ys => lexV ys xs) := by
  subst hK
  intro pins s σ H x y v u Q I rx ry h
  obtain ⟨a, b, xs, ys, rfl, rfl, ha, hb, al, q⟩ := h
  cases rx
  cases ry
  obtain ⟨is1, r1, p1, _⟩ := I.tuple ha
  obtain ⟨is2, r2, p2, _⟩ := I.tuple hb
  have l1 := r1.length
  have l2 := r2.length
  have key := Ob.RcOp.tuples_gt (A := X.A) (s := s) (e := fun j => decide (xs.getD j .non = ys.getD j .non)) (r := fun j => leafLt (ys.getD j .non) (xs.getD j .non)) p1 p2 hu
    (fun j j1 j2 => leaf_eq (vals_at r1 j j1) (vals_at r2 j j2) (al j (by simp at j1; omega) (by simp at j2; omega)))
    (fun j j1 j2 _ => leaf_gt (vals_at r1 j j1) (vals_at r2 j j2) (al j (by simp at j1; omega) (by simp at j2; omega)))
  rw [List.size_toArray, List.size_toArray, ← l1, ← l2] at key
  have e : lexV ys xs = Ob.lexAt (fun j => decide (xs.getD j .non = ys.getD j .non)) (fun j => leafLt (ys.getD j .non) (xs.getD j .non)) (decide (ys.length < xs.length)) 0 (min xs.length ys.length) := by
    unfold lexV
    rw [Nat.min_comm]
    congr 1
    funext j
    rw [Bool.eq_iff_iff, decide_eq_true_eq, decide_eq_true_eq]
    exact ⟨Eq.symm, Eq.symm⟩
  have q : Q (.bl (lexV ys xs)) H := q
  rw [e] at q
  exact (key X.prog X.w X.xe (EP X pins σ Q) ⟨.bl _, H, I, rfl, q⟩ : wpAny (model X.prog X.w) X.A (compareOp .Gt (.ref a) (.ref b)) (EP X pins σ Q) X.xe s)
theorem g_ordT {K : PySem.W.Frag} {f : List V → List V → Bool} {a b : Addr} {xs ys : List V} {H : Hp} {Q : VK} (h1 : SqT K H a xs) (h2 : SqT K H b ys) (al : pairsAlike xs ys) (q : Q (.bl (f xs ys)) H) : rOrdT K f (.ref a) (.ref b) H Q := ⟨a, b, xs, ys, rfl, rfl, h1, h2, al, q⟩
end Jg
namespace JgX
open PySem PySem.W PySem.Calls PySem.Spec PySem.HandSPX
open Builtin Builtin.ObjectAttr
/-! ### a class whose maker stands further up among its bases (KeyError has none of its own) -/
structure Up (B : String) (bm : List Value) : Prop where
  here : bm.contains (.type B) = true
  noA : bm.contains (.type "AttributeError") = false
  noN : bm.contains (.type "NameError") = false
section
variable {M : Model} {prog : Program} {w : World} {A : Around} {E : Value → Shared → Prop} {R : Result → Shared → Prop} {h : Heap} {g : Array GenState} {d : Drawn} {t : Nat} {os : OsState}
variable {nm q : Str} {C N : Addr} {bs bm bmB : List Value} {hdct : Bool} {sn : List Str} {sub : List Value} {ab : Bool} {col : Option Bool} {dd : Option Addr} {k0 k1 k2 k3 k5 : Option Value} {B newId initId : String}
theorem up_cons {T : String} {b : Bool} (h : bm.contains (.type T) = b) : (Value.ref C :: bm).contains (.type T) = b := by
  rw [List.contains_cons, h]
  cases b <;> rfl
theorem up_check (F : ExcBaseFacts B newId initId bmB) (U : Up B bm) {rest : List Value} {kw : List (Str × Value)} {Q : Unit → Shared → Prop} (lk : h.get? C = some (excClassObj nm q C N bs bm hdct sn sub ab col dd k0 k1 k2 k3 k5 newId)) (z : Q () ⟨h, g, d, t, os⟩) :
    wpAny M A (checkBuiltinCall newId ⟨.ref C :: rest, kw⟩) Q E ⟨h, g, d, t, os⟩ := by
  have here := up_cons (C := C) U.here
  have star := F.noStar
  simp only [checkBuiltinCall, F.newKind, F.newSplit, F.newRow]
  repeat (first
    | refine wpAny_loadPart_at lk ?_
    | (refine wpAny_isSubtype_exc lk ?_; rw [here])
    | refine wpAny_staticBase_exc lk ?_
    | refine wpAny_madeBy_exc lk ?_
    | simp only [bne_self_eq_false, Bool.false_eq_true, if_false]
    | wp_step)
  exact z
theorem up_new (F : ExcBaseFacts B newId initId bmB) (U : Up B bm) {rest : List Value} {kw : List (Str × Value)} (lk : h.get? C = some (excClassObj nm q C N bs bm hdct sn sub ab col dd k0 k1 k2 k3 k5 newId)) (few : rest.length ≤ sizeLine)
    (z : R (.ok (.ret (.ref (h.objs.size + 1)))) ⟨(h.push (kdv_tup rest)).push (excO C h.objs.size), g, d, t, os⟩) : codeAny (model prog w) A (.builtin newId ⟨.ref C :: rest, kw⟩) R ⟨h, g, d, t, os⟩ := by
  have ends := F.ends
  have here := up_cons (C := C) U.here
  have noA := up_cons (C := C) U.noA
  have noN := up_cons (C := C) U.noN
  refine codeAny_builtinAt F.entry ?_
  unfold Builtin.«BaseException.__new__»
  refine wpAt_bind ?_
  show wpAt _ _ _ (stack >>= _) _ _ _
  refine wpAt_bind (wpAt_stack fun p below => wpAt_of_wpAny ?_)
  wp_walk
  refine wpAt_of_wpAny ?_
  rw [F.owner]
  repeat (first
    | with_reducible refine wpAny_madeHere_exc F.canon lk ?_
    | with_reducible refine wpAny_loadPart_at lk ?_
    | (with_reducible refine wpAny_isSubtype_exc lk ?_; first | rw [here] | rw [noA] | rw [noN])
    | wp_step)
  show R _ _
  rw [Heap.size_push]
  exact z
theorem up_type (F : ExcBaseFacts B newId initId bmB) (U : Up B bm) {rest : List Value} {kw : List (Str × Value)} {fv : Value} {Q : Fin → Shared → Prop} (lk : h.get? C = some (excClassObj nm q C N bs bm hdct sn sub ab col dd k0 k1 k2 k3 k5 newId)) (few : rest.length ≤ sizeLine)
    (hi : Looks (model prog w) h (typeLookup (.ref C) "__init__") (some fv)) (hb : ∀ self, Looks (model prog w) h (bindSpecial fv self) (fv, [self]))
    (z : codeAny (model prog w) A (.call fv ⟨.ref (h.objs.size + 1) :: rest, kw⟩) (fun r s' => match r with | .ok (.ret v) => v = .none ∧ Q (.done (.ret (.ref (h.objs.size + 1)))) s' | .ok _ => False | .error e => E e s') ⟨(h.push (kdv_tup rest)).push (excO C h.objs.size), g, d, t, os⟩) :
    wpAny (model prog w) A (Builtin.«type.__call__» ⟨.ref C :: rest, kw⟩) Q E ⟨h, g, d, t, os⟩ := by
  repeat (first
    | with_reducible refine wpAny_loadPart_at lk ?_
    | with_reducible refine wpAny_madeBy_exc lk ?_
    | wp_step)
  refine codeAny_call_builtin_code (Code.quiet_builtin _ F.quiet) (up_check F U lk (up_new F U lk few ?_))
  show wpAny _ _ _ _ _ _
  have up : ∀ b o, h.get? b = some o → ((h.push (kdv_tup rest)).push (excO C h.objs.size)).get? b = some o := fun b o e => Heap.get?_push_of_some _ (Heap.get?_push_of_some _ e)
  have there : ((h.push (kdv_tup rest)).push (excO C h.objs.size)).get? (h.objs.size + 1) = some (excO C h.objs.size) := by heap_get
  have self_ : (Value.ref C :: bm).contains (.ref C) = true := by simp
  have lk2 := up _ _ lk
  unfold isInstance
  repeat (first
    | with_reducible refine wpAny_loadPart_at there ?_
    | (with_reducible refine wpAny_isSubtype_exc lk2 ?_; rw [self_])
    | wp_step)
  show wpAny _ _ (typeLookup (.ref C) _) _ _ _
  refine (hi.keeps up).at (wpAny_holding (wpAny_bind (((hb (.ref (h.objs.size + 1))).keeps up).at (wpAny_bind (wpAny_call (codeAny_mono z fun r s' y => ?_))))))
  cases r with
  | error e => exact y
  | ok fl =>
    cases fl with
    | ret v =>
      obtain ⟨e, y⟩ := y
      subst e
      first
        | exact wpAny_pure (wpAny_pure y)
        | (wp_walk; exact y)
    | next => exact y.elim
    | brk => exact y.elim
    | cont => exact y.elim
theorem up_call (F : ExcBaseFacts B newId initId bmB) (U : Up B bm) {rest : List Value} {kw : List (Str × Value)} {fv : Value} (lk : h.get? C = some (excClassObj nm q C N bs bm hdct sn sub ab col dd k0 k1 k2 k3 k5 newId)) (few : rest.length ≤ sizeLine)
    (hi : Looks (model prog w) h (typeLookup (.ref C) "__init__") (some fv)) (hb : ∀ self, Looks (model prog w) h (bindSpecial fv self) (fv, [self]))
    (z : codeAny (model prog w) (A.under (.builtin "type.__call__" ⟨.ref C :: rest, kw⟩)) (.call fv ⟨.ref (h.objs.size + 1) :: rest, kw⟩) (InitBack (h.objs.size + 1) R) ⟨(h.push (kdv_tup rest)).push (excO C h.objs.size), g, d, t, os⟩) :
    codeAny (model prog w) A (.call (.ref C) ⟨rest, kw⟩) R ⟨h, g, d, t, os⟩ := by
  have l1 := tc_lookup
  have l2 := tc_bind (.ref C)
  have ty : (⟨h, g, d, t, os⟩ : Shared).TypeIs (.ref C) "type" := ⟨_, lk, rfl⟩
  refine codeAny_of_tree ?_
  show wpAny _ _ (callAny (.ref C) _) _ _ _
  repeat (any_goals (first
    | assumption
    | with_reducible refine wpAny_loadPart_at lk ?_
    | wp_step))
  refine ⟨rfl, codeAny_call_builtin_at (Code.quiet_builtin _ (by decide +kernel)) entry_typeCall (wpAny_check_type_call_sub lk (up_type F U lk few hi hb (codeAny_mono z fun r s' y => ?_)))⟩
  cases r with
  | error e => exact y
  | ok fl => cases fl <;> exact y
end
end JgX
namespace JgX
open PySem PySem.W
theorem tail_contains {bmB : List Value} : ∀ {l : List Value}, excTail bmB l = true → ∀ Y : String, l.contains (.type Y) = bmB.contains (.type Y) := by
  intro l
  induction l with
  | nil =>
    intro h Y
    have e : bmB = [] := by simpa [excTail] using h
    rw [e]
  | cons a r ih =>
    intro h Y
    rcases excTail_cases _ h with ⟨c, r', e, h'⟩ | e
    · cases e
      rw [List.contains_cons, ih h' Y]
      rfl
    · rw [e]
theorem up_tail {M : String} {bmB l : List Value} (h : excTail bmB l = true) (u : Up M bmB) : Up M l :=
  ⟨(tail_contains h M).trans u.here, (tail_contains h _).trans u.noA, (tail_contains h _).trans u.noN⟩
/-- the makers of the three families -/
structure Maker (newId : String) (bmB : List Value) : Prop where
  ex : ∃ (M i : String) (bm : List Value), ExcBaseFacts M newId i bm ∧ Up M bmB
theorem mkValue : Maker "ValueError.__new__" [.type "ValueError", .type "Exception", .type "BaseException", .type "object"] := ⟨_, _, _, F.excBase_ValueError, by decide +kernel, by decide +kernel, by decide +kernel⟩
theorem mkLookup : Maker "LookupError.__new__" [.type "LookupError", .type "Exception", .type "BaseException", .type "object"] := ⟨_, _, _, F.excBase_LookupError, by decide +kernel, by decide +kernel, by decide +kernel⟩
theorem mkKey : Maker "LookupError.__new__" [.type "KeyError", .type "LookupError", .type "Exception", .type "BaseException", .type "object"] := ⟨_, _, _, F.excBase_LookupError, by decide +kernel, by decide +kernel, by decide +kernel⟩
end JgX
namespace JgX
open PySem PySem.W PySem.Calls PySem.Spec PySem.HandSPX
open Builtin Builtin.ObjectAttr
/-! ### C(v) of a class without an __init__ of its own -/
section
variable {M : Model} {prog : Program} {w : World} {A : Around} {E : Value → Shared → Prop} {R : Result → Shared → Prop} {h : Heap} {g : Array GenState} {d : Drawn} {t : Nat} {os : OsState}
variable {nm q : Str} {C N : Addr} {bs bm bmB : List Value} {hdct : Bool} {sn : List Str} {sub : List Value} {ab : Bool} {col : Option Bool} {dd : Option Addr} {k0 k1 k2 k3 k5 : Option Value} {B newId i : String}
theorem ini_call (F : IniFacts B i) (hB : bm.contains (.type B) = true) {e : Addr} {oe : Obj} {rest : List Value} {Q : Unit → Shared → Prop} (lk : h.get? C = some (excClassObj nm q C N bs bm hdct sn sub ab col dd k0 k1 k2 k3 k5 newId)) (he : h.get? e = some oe) (oc : oe.cls = .ref C)
    (sp : splitId i = some (B, "__init__")) (z : Q () ⟨h, g, d, t, os⟩) : wpAny M A (checkBuiltinCall i ⟨.ref e :: rest, []⟩) Q E ⟨h, g, d, t, os⟩ := by
  have here := up_cons (C := C) hB
  have star := F.star
  simp only [checkBuiltinCall, F.kind, sp, F.row]
  repeat (first
    | (with_reducible refine wpAny_loadPart_at he ?_; rw [oc])
    | with_reducible refine wpAny_loadPart_at lk ?_
    | (with_reducible refine wpAny_isSubtype_exc lk ?_; rw [here])
    | wp_step)
  refine wpAny_onRaise ?_
  have free : ∀ (a b : String) (n : Nat), Bind.check ⟨.positional, "*", B, .self, [⟨"args", .varPos, false⟩]⟩ a b n (({ pos := Value.ref e :: rest } : Args).kw.map fun x => x.fst) = pure () := fun a b n => check_star_args _ _ _ _ _ _
  rw [free]
  exact wpAny_pure z
theorem up_init (F : IniFacts B i) (hB : bm.contains (.type B) = true) (sp : splitId i = some (B, "__init__")) {e t0 : Addr} {rest : List Value} (lk : h.get? C = some (excClassObj nm q C N bs bm hdct sn sub ab col dd k0 k1 k2 k3 k5 newId)) (he : h.get? e = some (excO C t0)) (few : rest.length ≤ sizeLine)
    (z : ∀ h' t1, (∀ b o, b ≠ e → h.get? b = some o → h'.get? b = some o) → h'.get? e = some (excO C t1) → h'.get? t1 = some (excTup rest) → h.objs.size ≤ t1 → R (.ok (.ret .none)) ⟨h', g, d, t, os⟩) :
    codeAny (model prog w) A (.call (.builtin i) ⟨.ref e :: rest, []⟩) R ⟨h, g, d, t, os⟩ :=
  codeAny_call_builtin F.slot.plain F.entry (ini_call F hB lk he rfl sp (exc_init_tree (cls := .ref C) (t0 := t0) (dv := none) (c2 := .none) (c3 := .none) (b4 := .bool false) he few fun h' a b c => z h' _ a b c (Nat.le_refl _)))
end
end JgX
namespace JgX
open PySem PySem.W PySem.Calls PyProof.Rows PySem.Spec L2
/-! ### exceptions as values, with their fields told, under any base -/
/-- at a: an exception of the class at C, made with the text z, these its fields -/
def KxF (H : Hp) (a C : Addr) (z : Str) (fs : List (Str × V)) : Prop := ∃ t1 dx : Addr, H a = some (.frz (keptObj C t1 dx) (exo a C (some dx))) ∧ H dx = some (exd dx fs) ∧ H t1 = some (.tup [.str z])
theorem KxF.kx {H : Hp} {a C : Addr} {z : Str} {fs : List (Str × V)} (h : KxF H a C z fs) : Kx H a C z := by
  obtain ⟨t1, dx, h1, h2, h3⟩ := h
  exact ⟨t1, dx, fs, h1, h2, h3⟩
theorem KxF.all {H H' : Hp} {a C : Addr} {z : Str} {fs : List (Str × V)} (s : All H H') (h : KxF H a C z fs) : KxF H' a C z fs := by
  obtain ⟨t1, dx, h1, h2, h3⟩ := h
  exact ⟨t1, dx, s _ _ h1, s _ _ h2, s _ _ h3⟩
def tKxF (C : Addr) (f z : Str) (te : TE) : TE := fun σ H Q => te σ H fun y H1 => tNil σ H1 fun ys H2 => ∃ y2, y :: ys = [y2] ∧ ∀ a H3, H2 a = none → All H2 H3 → KxF H3 a C z [(f, y2)] → Q (.ref a) H3
theorem g_kxF {C : Addr} {f z : Str} {y : V} {σ : L2.St} {H : Hp} {Q : VK} (q : ∀ a H3, H a = none → All H H3 → KxF H3 a C z [(f, y)] → Q (.ref a) H3) : tKxF C f z (tC y) σ H Q := ⟨_, rfl, q⟩
theorem g_kxFV {C : Addr} {f z : Str} {i : Nat} {y : V} {σ : L2.St} {H : Hp} {Q : VK} (e : σ[i]? = some (some y)) (q : ∀ a H3, H a = none → All H H3 → KxF H3 a C z [(f, y)] → Q (.ref a) H3) : tKxF C f z (tVar i) σ H Q := ⟨y, e, _, rfl, q⟩
section
variable {X : Cx} {x : Str} {C fI : Addr} {k : Nat} {fd : FuncData} {par f z : Str} {e : Expr} {te : TE} {p pos kpos : Pos} {B newId i : String} {bmB : List Value}
/-- C(v) as a value, under any base that makes its own -/
theorem pe_kxF (MK : Maker newId bmB) (T : XC X.K C B newId i bmB) (iC : findIn X.K (.ref C) "__init__" = some (some (.ref fI))) (tI : typeIn X.K (.ref fI) = some (.type "function"))
    (F1 : FnOk X.prog X.w X.K X.mg X.base CX0 k fI fd [("self" : Str), par] (xKeep C f z)) (room : Room (k + 1) X.A) (hb : Binds X.K fd [("self" : Str), par] []) (hg : Gl X x) (hm : X.mg x = some (.ref C)) (he : PE X e te)
    (hdb : (x == ("__debug__" : Str)) = false := by decide) (hs : starEach [e] X.env = (false, eval e X.env) :: starEach [] X.env := by rfl) (hpl : (backTo pos (starEach [] X.env)).any (·.1) = false := by rfl) :
    PE X (.Call (.Name x p) [e] [] pos) (tKxF C f z te) := by
  constructor
  intro pins s σ H Q I h
  obtain ⟨nm, q, N, bs, bm, sn, sub, ab, col, dd, k0, k1, k2, k3, k5, hC, htail⟩ := T.cls
  obtain ⟨MM, iM, bmM, FM, up0⟩ := MK.ex
  have args : PA X [e] (tCons te tNil) := pa_cons he pa_nil hs
  refine wpAny_Call_Name_kw (ld_glob I hg hm ?_ hdb)
  refine PySem.W.callWith_K (h₀ := X.base) I.ok.mod.kin T.kC (thn (args.run pos pins s σ H (fun vs H1 => ∃ y, vs = [y] ∧ ∀ a H2, H1 a = none → All H1 H2 → KxF H2 a C z [(f, y)] → Q (.ref a) H2) I h) ?_) hs hpl
  rintro us s1 ⟨vs, H1, I1, rel, y, rfl, q1⟩
  refine ⟨I1.kIn, ?_⟩
  show wpAny _ _ (call (.ref C) us) _ _ _
  obtain ⟨u, rfl, ru⟩ := vals1 rel
  obtain ⟨hp, g, dr, tk, os⟩ := s1
  have up : ∀ b o, hp.get? b = some o → ((hp.push (PySem.W.kdv_tup [u])).push (PySem.HandSPX.excO C hp.objs.size)).get? b = some o := fun b o e =>
    Heap.get?_push_of_some _ (Heap.get?_push_of_some _ e)
  have fresh : H1 (hp.objs.size + 1) = none := I1.hok.fresh (Nat.le_succ _)
  have there : ((hp.push (PySem.W.kdv_tup [u])).push (PySem.HandSPX.excO C hp.objs.size)).get? (hp.objs.size + 1) = some (PySem.HandSPX.excO C hp.objs.size) := by heap_get
  have I2 : Inv X pins σ (upd H1 (hp.objs.size + 1) (exo (hp.objs.size + 1) C none)) ⟨(hp.push (PySem.W.kdv_tup [u])).push (PySem.HandSPX.excO C hp.objs.size), g, dr, tk, os⟩ :=
    I1.laid (t' := tk) up (Nat.le_succ _) (exo_ok there)
  have want : xKeep C f z [V.ref (hp.objs.size + 1), y] (upd H1 (hp.objs.size + 1) (exo (hp.objs.size + 1) C none)) (fun v H3 => v = .non ∧ Q (.ref (hp.objs.size + 1)) H3) E0 := by
    refine ⟨_, y, rfl, upd_same, fun dx t1 hd hda ht hta htd => ⟨rfl, q1 _ _ fresh ?_ ?_⟩⟩
    · intro b o hbo
      have nb := ne_of_none hbo fresh
      rw [upd_ne hda] at hd
      rw [upd_ne hta] at ht
      rw [upd_ne nb, upd_ne (ne_of_none hbo hd), upd_ne (ne_of_none hbo ht), upd_ne nb]
      exact hbo
    · refine ⟨t1, dx, upd_same, ?_, ?_⟩
      · rw [upd_ne hda, upd_same]
      · rw [upd_ne hta, upd_ne htd, upd_same]
  refine wpAny_call (up_call FM (up_tail htail up0) (I1.kIn _ _ hC) (by rw [sizeLine_eq]; simp) (PySem.W.looks_findIn I1.kIn iC) (fun self => PySem.W.bind_fn I1.kIn self tI) ?_)
  have r2 : Vals [V.ref (hp.objs.size + 1), y] [Value.ref (hp.objs.size + 1), u] := .cons rfl (.cons ru .nil)
  refine codeAny_mono (F1.run _ X.stack _ _ ⟨[Value.ref (hp.objs.size + 1), u], []⟩ [Value.ref (hp.objs.size + 1), u] _ _ E0 (room.make C [u] []) (I2.env0.make C [u] []) ?_ r2 want) ?_
  · have b := hb _ [Value.ref (hp.objs.size + 1), u] I2.kIn (by simp)
    exact b
  intro r s' hq
  cases r with
  | error er => exact False.elim hq
  | ok fl =>
    cases fl with
    | ret v =>
      obtain ⟨v2, H2, J, rv, ev, q2⟩ := I2.after hq
      subst ev
      exact ⟨rv, V.ref (hp.objs.size + 1), H2, J, rfl, q2⟩
    | next => exact False.elim hq
    | brk => exact False.elim hq
    | cont => exact False.elim hq
/-- C(par=v) as a value -/
theorem pe_kxK (MK : Maker newId bmB) (T : XC X.K C B newId i bmB) (iC : findIn X.K (.ref C) "__init__" = some (some (.ref fI))) (tI : typeIn X.K (.ref fI) = some (.type "function"))
    (F1 : FnOk X.prog X.w X.K X.mg X.base CX0 k fI fd [("self" : Str), par] (xKeep C f z)) (room : Room (k + 1) X.A) (hb : ∀ (s : Shared) (a v : Value), X.K.In s.heap → BindsTo s fd ⟨[a], [(par, v)]⟩ [(("self" : Str), a), (par, v)]) (hg : Gl X x) (hm : X.mg x = some (.ref C)) (he : PE X e te)
    (hdb : (x == ("__debug__" : Str)) = false := by decide) (named : (backToKw pos (keywordEach [⟨some par, e, kpos⟩] X.env)).all (·.1.isSome) = true := by rfl) (hks : (backToKw pos (keywordEach [⟨some par, e, kpos⟩] X.env)).filterMap (·.1) = [par] := by rfl)
    (hpl : ((backTo pos (starEach [] X.env)).any (·.1) || (backToKw pos (keywordEach [⟨some par, e, kpos⟩] X.env)).any (·.1.isNone)) = false := by rfl) :
    PE X (.Call (.Name x p) [] [⟨some par, e, kpos⟩] pos) (tKxF C f z te) := by
  constructor
  intro pins s σ H Q I h
  obtain ⟨nm, q, N, bs, bm, sn, sub, ab, col, dd, k0, k1, k2, k3, k5, hC, htail⟩ := T.cls
  obtain ⟨MM, iM, bmM, FM, up0⟩ := MK.ex
  have args : PK X [⟨some par, e, kpos⟩] (tCons te tNil) := pk_cons he pk_nil
  refine wpAny_Call_Name_kw (ld_glob I hg hm ?_ hdb)
  refine PySem.W.callWith_KW0 (h₀ := X.base) I.ok.mod.kin T.kC named (thn (args.run pos pins s σ H (fun vs H1 => ∃ y, vs = [y] ∧ ∀ a H2, H1 a = none → All H1 H2 → KxF H2 a C z [(f, y)] → Q (.ref a) H2) I h) ?_) hpl
  rintro us s1 ⟨vs, H1, I1, rel, y, rfl, q1⟩
  refine ⟨I1.kIn, ?_⟩
  rw [hks]
  show wpAny _ _ (call (.ref C) [] ([par].zip us)) _ _ _
  obtain ⟨u, rfl, ru⟩ := vals1 rel
  obtain ⟨hp, g, dr, tk, os⟩ := s1
  have up : ∀ b o, hp.get? b = some o → ((hp.push (PySem.W.kdv_tup [])).push (PySem.HandSPX.excO C hp.objs.size)).get? b = some o := fun b o e =>
    Heap.get?_push_of_some _ (Heap.get?_push_of_some _ e)
  have fresh : H1 (hp.objs.size + 1) = none := I1.hok.fresh (Nat.le_succ _)
  have there : ((hp.push (PySem.W.kdv_tup [])).push (PySem.HandSPX.excO C hp.objs.size)).get? (hp.objs.size + 1) = some (PySem.HandSPX.excO C hp.objs.size) := by heap_get
  have I2 : Inv X pins σ (upd H1 (hp.objs.size + 1) (exo (hp.objs.size + 1) C none)) ⟨(hp.push (PySem.W.kdv_tup [])).push (PySem.HandSPX.excO C hp.objs.size), g, dr, tk, os⟩ :=
    I1.laid (t' := tk) up (Nat.le_succ _) (exo_ok there)
  have want : xKeep C f z [V.ref (hp.objs.size + 1), y] (upd H1 (hp.objs.size + 1) (exo (hp.objs.size + 1) C none)) (fun v H3 => v = .non ∧ Q (.ref (hp.objs.size + 1)) H3) E0 := by
    refine ⟨_, y, rfl, upd_same, fun dx t1 hd hda ht hta htd => ⟨rfl, q1 _ _ fresh ?_ ?_⟩⟩
    · intro b o hbo
      have nb := ne_of_none hbo fresh
      rw [upd_ne hda] at hd
      rw [upd_ne hta] at ht
      rw [upd_ne nb, upd_ne (ne_of_none hbo hd), upd_ne (ne_of_none hbo ht), upd_ne nb]
      exact hbo
    · refine ⟨t1, dx, upd_same, ?_, ?_⟩
      · rw [upd_ne hda, upd_same]
      · rw [upd_ne hta, upd_ne htd, upd_same]
  refine wpAny_call (up_call FM (up_tail htail up0) (I1.kIn _ _ hC) (by rw [sizeLine_eq]; simp) (PySem.W.looks_findIn I1.kIn iC) (fun self => PySem.W.bind_fn I1.kIn self tI) ?_)
  have r2 : Vals [V.ref (hp.objs.size + 1), y] [Value.ref (hp.objs.size + 1), u] := .cons rfl (.cons ru .nil)
  refine codeAny_mono (F1.run _ X.stack _ _ ⟨[Value.ref (hp.objs.size + 1)], [(par, u)]⟩ [Value.ref (hp.objs.size + 1), u] _ _ E0 (room.make C [] [(par, u)]) (I2.env0.make C [] [(par, u)]) ?_ r2 want) ?_
  · exact hb _ _ _ I2.kIn
  intro r s' hq
  cases r with
  | error er => exact False.elim hq
  | ok fl =>
    cases fl with
    | ret v =>
      obtain ⟨v2, H2, J, rv, ev, q2⟩ := I2.after hq
      subst ev
      exact ⟨rv, V.ref (hp.objs.size + 1), H2, J, rfl, q2⟩
    | next => exact False.elim hq
    | brk => exact False.elim hq
    | cont => exact False.elim hq
end
/-! ### e.f of such a value -/
theorem KxF.inst {X : Cx} {pins : List (Addr × Obj)} {σ : L2.St} {H : Hp} {s : Shared} {a C : Addr} {z : Str} {fs : List (Str × V)} (I : Inv X pins σ H s) (e : KxF H a C z fs) :
    ∃ (oe od : Obj) (dx : Addr) (mA : Str → Option Value), InstAt s.heap a oe C (some od) ∧ s.heap.Ns1 dx mA ∧ (∀ f, RelO (fs.lookup f) (mA f)) ∧ s.heap.get? dx = some od := by
  obtain ⟨t1, dx, ea, ed, _⟩ := e
  have ho : s.heap.get? a = some (keptObj C t1 dx) := (I.hok a _ ea).1
  obtain ⟨mA, hns, rel⟩ := exd_at I.hok ed
  obtain ⟨od, hod, hl⟩ := lookIn_ns hns
  exact ⟨_, od, dx, mA, ⟨ho, rfl, rfl, hod⟩, hns, rel, hod⟩
def tKg (K : PySem.W.Frag) (f : Str) (te : TE) : TE := fun σ H Q => te σ H fun x H1 => ∃ (a C : Addr) (z : Str) (fs : List (Str × V)) (v : V), x = .ref a ∧ KxF H1 a C z fs ∧ XfC K C ∧ findIn K (.ref C) f = some none ∧ fs.lookup f = some v ∧ Q v H1
theorem pe_kg {X : Cx} {K : PySem.W.Frag} {e : Expr} {te : TE} {pos : Pos} {n : Str} (he : PE X e te) (hb : attributeBase e n X.env (eval e X.env) = eval e X.env := by rfl) (hK : X.K = K := by rfl) : PE X (.Attribute e n pos) (tKg K n te) := by
  subst hK
  refine ⟨fun pins s σ H Q I h => ?_⟩
  refine attr_of hb (thn (he.run pins s σ H _ I h) fun u s1 hh => ?_)
  obtain ⟨x, H1, I1, rx, a, C, z, fs, v, rfl, k, T, hno, l, q⟩ := hh
  obtain rfl : u = Value.ref a := rx
  obtain ⟨oe, od, dx, mA, J, hns, rel, hod⟩ := k.inst I1
  obtain ⟨od', ho', hl⟩ := lookIn_ns hns
  obtain rfl : od' = od := Option.some.inj (ho'.symm.trans hod)
  obtain ⟨w, hw, rw'⟩ := RelO.some_of (v := v) (o := mA n) (by rw [← l]; exact rel n)
  exact HandSPX.exc_get I1.kIn J T.ga T.gg T.exC (findObj_own T.hdC hno rfl (by rw [hl, hw])) (handed_of rw') ⟨v, H1, I1.tok _, rw', q⟩
/-! ### C(v) of a class without an __init__ of its own, as a value -/
/-- what the written part says of such a class -/
structure Plain (K : PySem.W.Frag) (C : Addr) (B newId i : String) (bmB : List Value) : Prop where
  cls : ∃ nm q N bs bm sn sub ab col dd k0 k1 k2 k3 k5, K.lookup C = some (excClassObj nm q C N bs bm true sn sub ab col dd k0 k1 k2 k3 k5 newId) ∧ excTail bmB bm = true
  kC : keepIn K (.ref C) = true
  ini : findIn K (.ref C) "__init__" = some (some (.builtin i))
def tPl (C : Addr) (te : TE) : TE := fun σ H Q => te σ H fun y H1 => tNil σ H1 fun ys H2 => ∃ y2, y :: ys = [y2] ∧ ∀ a, H2 a = none → Q (.ref a) (upd H2 a (exo a C none))
theorem g_pl {C : Addr} {y : V} {σ : L2.St} {H : Hp} {Q : VK} (q : ∀ a, H a = none → Q (.ref a) (upd H a (exo a C none))) : tPl C (tC y) σ H Q := ⟨_, rfl, q⟩
theorem pe_plain {X : Cx} {x : Str} {C : Addr} {e : Expr} {te : TE} {p pos : Pos} {B newId i : String} {bmB : List Value} (MK : Maker newId bmB) (F : IniFacts B i) (hB : bmB.contains (.type B) = true) (sp : splitId i = some (B, "__init__")) (T : Plain X.K C B newId i bmB)
    (hg : Gl X x) (hm : X.mg x = some (.ref C)) (he : PE X e te)
    (hdb : (x == ("__debug__" : Str)) = false := by decide) (hs : starEach [e] X.env = (false, eval e X.env) :: starEach [] X.env := by rfl) (hpl : (backTo pos (starEach [] X.env)).any (·.1) = false := by rfl) :
    PE X (.Call (.Name x p) [e] [] pos) (tPl C te) := by
  constructor
  intro pins s σ H Q I h
  obtain ⟨nm, q, N, bs, bm, sn, sub, ab, col, dd, k0, k1, k2, k3, k5, hC, htail⟩ := T.cls
  obtain ⟨MM, iM, bmM, FM, up0⟩ := MK.ex
  have args : PA X [e] (tCons te tNil) := pa_cons he pa_nil hs
  refine wpAny_Call_Name_kw (ld_glob I hg hm ?_ hdb)
  refine PySem.W.callWith_K (h₀ := X.base) I.ok.mod.kin T.kC (thn (args.run pos pins s σ H (fun vs H1 => ∃ y, vs = [y] ∧ ∀ a, H1 a = none → Q (.ref a) (upd H1 a (exo a C none))) I h) ?_) hs hpl
  rintro us s1 ⟨vs, H1, I1, rel, y, rfl, q1⟩
  refine ⟨I1.kIn, ?_⟩
  show wpAny _ _ (call (.ref C) us) _ _ _
  obtain ⟨u, rfl, ru⟩ := vals1 rel
  obtain ⟨hp, g, dr, tk, os⟩ := s1
  have one : [u].length ≤ sizeLine := by rw [sizeLine_eq]; simp
  have up : ∀ b o, hp.get? b = some o → ((hp.push (PySem.W.kdv_tup [u])).push (PySem.HandSPX.excO C hp.objs.size)).get? b = some o := fun b o e =>
    Heap.get?_push_of_some _ (Heap.get?_push_of_some _ e)
  have there : ((hp.push (PySem.W.kdv_tup [u])).push (PySem.HandSPX.excO C hp.objs.size)).get? (hp.objs.size + 1) = some (PySem.HandSPX.excO C hp.objs.size) := by heap_get
  have lk := I1.kIn _ _ hC
  have inB : bm.contains (.type B) = true := (tail_contains htail B).trans hB
  refine wpAny_call (up_call (fv := .builtin i) FM (up_tail htail up0) lk one (PySem.W.looks_findIn I1.kIn T.ini) (fun self => Looks.of_pure (F.slot.bind self)) ?_)
  refine up_init F inB sp (up _ _ lk) there one fun h2 t1 k2 e2 _ _ => ?_
  have fresh : H1 (hp.objs.size + 1) = none := I1.hok.fresh (Nat.le_succ _)
  have keep : ∀ b o, hp.get? b = some o → h2.get? b = some o := fun b o e => k2 b o (Nat.ne_of_lt (Nat.lt_succ_of_lt (Heap.lt_size e))) (up b o e)
  exact ⟨rfl, .ref (hp.objs.size + 1), _, I1.laid (t' := tk) keep (Nat.le_succ _) (exo_ok e2), rfl, q1 _ fresh⟩
def rIsiO (K : PySem.W.Frag) : List V → Hp → VK → Prop := fun xs H Q => ∃ (a C : Addr) (c : V) (u : Value) (b : Bool), xs = [.ref a, c] ∧ ClsV c u ∧ H a = some (exo a C none) ∧ XA K C ∧ kitOne K (.ref C) u = some b ∧ Q (.bl b) H
theorem call_isiO {X : Cx} : CallR X (.builtin "isinstance") (rIsiO X.K) := by
  intro pins s σ H xs us Q I r h
  obtain ⟨a, C, c, u, b, rfl, k, ea, T, e, q⟩ := h
  obtain ⟨u1, u2, rfl, r1, r2⟩ := vals2 r
  have e2 := k.eq r2
  subst e2
  cases (show u1 = Value.ref a from r1)
  obtain ⟨t1, ho⟩ := exo_at I.hok ea
  exact kia_one (kitx_exc T.cl T.f.ga T.f.gg T.f.exC T.ha T.hn T.tk T.hm) I.kIn (⟨ho, rfl, rfl, trivial⟩ : InstAt s.heap a _ C none) e (fun z => nomatch z) fun tk => ⟨.bl b, H, I.tok tk, rfl, q⟩
/-- isinstance of data, of an exception with fields, of one without -/
theorem call_isi3 {X : Cx} {K : PySem.W.Frag} (hK : X.K = K := by rfl) : CallR X (.builtin "isinstance") (rEith (rEith (rIsi K) (rIsiX K)) (rIsiO K)) := by
  subst hK
  exact call_eith (call_eith call_isi call_isiX) call_isiO
end JgX
namespace JgX
open PySem PySem.W PySem.Calls PyProof.Rows PySem.Spec L2
/-! ### an __init__ without a parameter: super().__init__('..') alone -/
theorem excSame {P : Program} {w : World} {H : Hp} {hp h' : Heap} {fs : List Addr} {a C : Addr} {t1 : Addr} (hok : HOk P w H hp) (e : H a = some (exo a C none)) (k : ∀ b o, b ≠ a → hp.get? b = some o → h'.get? b = some o)
    (hx : h'.get? a = some ({ cls := .ref C, dict := none, data := .fields #[.ref t1, .none, .none, .none, .bool false, .none] } : Obj)) : Un fs [] H H hp h' ∧ HOk P w H h' := by
  have na : ∀ {b : Addr}, H b = none → b ≠ a := fun {b} n z => by
    rw [z, e] at n
    cases n
  refine ⟨⟨fun b o q n _ _ => k b o (na n) q, fun b o q n _ _ => ⟨o.slots, k b o (na n) q⟩, fun b o q n _ => n, fun b o q _ => ?_, fun b xs q => q, fun b o v q => q, fun b ps q => ⟨#[], ?_⟩⟩, fun b o q => ?_⟩
  · by_cases hb : b = a
    · exact ⟨_, by rw [hb]; exact hx⟩
    · exact ⟨o, k b o hb q⟩
  · rw [q]
    simp
  by_cases hb : b = a
  · subst hb
    rw [e] at q
    cases q
    exact exo_ok hx
  refine (hok b o q).stay (fun c v hc z => k c v ?_ z) (fun c hc => hc) (fun c xs hc => hc)
  rcases hc with hc | hc
  · rw [hc]
    exact hb
  · exact at_ne e hc exo_own
def xNo (C : Addr) : Sp := fun vs H Q _ => ∃ a, vs = [.ref a] ∧ H a = some (exo a C none) ∧ Q .non H
section
variable {P : Program} {w : World} {K : Frag} {mg : Str → Option Value} {base : Heap} {CX : CXT} {k : Nat} {B newId i : String} {bmB : List Value} {C fI : Addr} {fd : FuncData} {qual text : Str} {params : Arguments} {scope : Scope}
  {p0 p1 p2 p3 p4 : Pos} {j : Nat}
theorem init_no (X : XBase B newId i bmB) (T : XC K C B newId i bmB) (S : XFn P K C fI fd qual params [.Expr (.Call (.Attribute (.Call (.Name "super" p0) [] [] p1) "__init__" p2) [.Constant (.str text) j p3] [] p4) p4] scope)
    (opq : nsIn K cStatics "thirdparty.any" = some none) (msup : mg "super" = none) (htop : (P.main.scope.names.lookup ("super" : Str)).isSome = false)
    (hks : scope.names.lookup ("super" : Str) = some .globalImplicit) (hkc : scope.names.lookup ("__class__" : Str) = some .free) (hkS : scope.names.lookup ("self" : Str) = some .local)
    (hk : scope.kind = .function) (hcell : ∀ x ∈ scope.names, x.2 ≠ .cell) (hco : scope.isCoroutine = false) (hgen : scope.isGenerator = false)
    (hpar : ∃ ar, (params.posonlyargs ++ params.args).head? = some ar ∧ ar.arg = ("self" : Str))
    (hev : ∀ en : Env, ∃ pl : Sem Bool, eval (.Call (.Attribute (.Call (.Name "super" p0) [] [] p1) "__init__" p2) [.Constant (.str text) j p3] [] p4) en = (do
      let ov ← attributeBase (.Call (.Name "super" p0) [] [] p1) "__init__" en (eval (.Call (.Name "super" p0) [] [] p1) en)
      standAt p2.atName
      let (f, first) ← holding [ov] (getMethod ov "__init__" pl)
      callWith p4 f first (backTo p4 (starEach [.Constant (.str text) j p3] en)) []))
    (hsx : ∀ en : Env, swapsWith (.Call (.Attribute (.Call (.Name "super" p0) [] [] p1) "__init__" p2) [.Constant (.str text) j p3] [] p4) none p4.line en = pure false) :
    FnOk P w K mg base CX (k + 1) fI fd [("self" : Str)] (xNo C) := by
  refine ⟨fun vs H Q E ⟨a, e, _⟩ => by rw [e]; rfl, fun A outer s H args us vs Q E room env bnd rel want => ?_⟩
  obtain ⟨a, rfl, ea, q⟩ := want
  obtain ⟨nm, cc, cda, oc, kV, doc, pm, ct, ccl, cl, od, an, cdd, cld, osl, ccs, csl, vs', file, tf, rfl, lk, hcd, lcd, hv2, hfile, lcc⟩ := S.ex
  obtain ⟨nmC, qC, NC, bsC, bmC, snC, sub, ab, col, dd, k0, k1, k2, k3, k5, hC, htail⟩ := T.cls
  obtain ⟨ar, har, harn⟩ := hpar
  cases rel with
  | @cons _ u0 _ ur ra rw' =>
  cases rw'
  obtain rfl : u0 = Value.ref a := ra
  have bk : ∀ b o, base.get? b = some o → s.heap.get? b = some o := fun b o e => (env.bs b o e).1
  have kin : K.In s.heap := env.mod.kin.keeps bk
  obtain ⟨t1, hea⟩ := exo_at env.hok ea
  have clsC : clsIn K C = some { name := nmC, bases := bsC, mro := .ref C :: bmC, ns := NC, qualname := qC, hasDict := true, slotNames := snC, subclasses := sub, abstract := ab, collection := col, hasDel := false } := by
    unfold clsIn; rw [hC] <;> rfl
  have hsub : mroIn K C (.ref C) = some true := by
    unfold mroIn
    rw [clsC, Option.bind_some, if_neg (show ¬ (List.isEmpty (Value.ref C :: bmC) = true) from Bool.false_ne_true)]
    simp
  -- the heap without the exception
  have bh : ∀ b o, base.get? b = some o → (s.heap.hide a).get? b = some o := fun b o e =>
    (Heap.hide_ne s.heap fun z => by have n := (env.bs b o e).2; rw [z, ea] at n; cases n).trans (bk b o e)
  have kinH : K.In (s.heap.hide a) := env.mod.kin.keeps bh
  refine ks_codeAny_call_defAt (fd := ksFn nm qual params _ scope .none kV doc pm an (.ref cda) ct cc) (body := [.Expr (.Call (.Attribute (.Call (.Name "super" p0) [] [] p1) "__init__" p2) [.Constant (.str text) j p3] [] p4) p4]) (binds := [(("self" : Str), Value.ref a)]) room.depth (kin _ _ lk) rfl
    (env.mod.nolimit.keeps bk) (codeRec_of kin hcd) rfl bnd hcell (fun x hx => ?_) (fun h₁ hns hk₁ => ?_) hco hgen hk
  · rcases List.mem_cons.mp hx with rfl | hx
    · exact hkS
    · cases hx
  have F1 : Fr (s.heap.hide a) s.heap.objs.size h₁ (fun y => [(("self" : Str), Value.ref a)].reverse.lookup y) :=
    ⟨hns, fun b o e => hk₁ b o (Heap.of_hide e), Nat.le_of_eq (Heap.hide_size s.heap a)⟩
  have N1 : News (s.heap.hide a) s.heap.objs.size h₁ [(a, excObj C t1 none .none)] := fun p hp => by
    rcases List.mem_cons.mp hp with rfl | hp
    · exact ⟨hk₁ _ _ hea, Nat.ne_of_lt (Heap.lt_size hea), Heap.hide_self s.heap a⟩
    · cases hp
  have mself : (fun y => [(("self" : Str), Value.ref a)].reverse.lookup y) ("self" : Str) = some (.ref a) := by
    simp [List.lookup_cons]
  have neA : ∀ {b : Addr} {o : Obj}, (s.heap.hide a).get? b = some o → b ≠ a := fun {b o} e z => by
    rw [z, Heap.hide_self] at e
    cases e
  obtain ⟨mb, hmb, hmbB⟩ := env.mod.blt
  have keep1 : ∀ b o, base.get? b = some o → h₁.get? b = some o := fun b o e => F1.keep b o (bh b o e)
  have kin1 : K.In h₁ := env.mod.kin.keeps keep1
  obtain ⟨pl, hev⟩ := hev (callEnv (ksFn nm qual params [.Expr (.Call (.Attribute (.Call (.Name "super" p0) [] [] p1) "__init__" p2) [.Constant (.str text) j p3] [] p4) p4] scope .none kV doc pm an (.ref cda) ct cc) s.heap.objs.size fI)
  refine ks_wpAt_execs_cons (ks_wpAt_Expr_any (hi := by show (scope.kind == .module && _) = false; rw [hk]; rfl) (hs := hsx _) (ks_wpAt_MethodCall (pl := pl) (he := hev) (ks_wpAt_super_base (f := fI) (cc := cda) (ar := ar) (file := file) (tf := tf) hks hkc rfl rfl (kin1 _ _ lk) rfl har rfl (kin1 _ _ lcd) rfl hv2 hfile htop ?_)))
  refine ks_loadName_global hk hks (loadGlobal_builtin (mb := mb) (env.mod.glob.keeps keep1) msup (hmb.keeps keep1) ((hmbB _ (by decide)).trans (show bootBuiltins "super" = some (.type "super") by decide +kernel)) ⟨rfl, ?_⟩)
  refine wpAny_loadName_free hk hkc rfl ⟨_, kin1 _ _ lcc, rfl⟩ ?_
  rw [harn]
  refine wpAny_loadName_local hk hkS hns mself ?_
  refine ks_wpAny_isType_cls (kin1 _ _ hC) rfl ⟨rfl, ?_⟩
  refine ks_wpAny_call_super (kin1 _ _ hC) rfl (hk₁ _ _ hea) rfl (fun c z => by cases z) (looks_mroIn kin1 hsub) (fun h2 e2 keep2 => ?_)
  obtain ⟨F2, N2, l2⟩ := ks_newsPush (s := ⟨h₁, s.gens, s.drawn, s.toks + 2, s.os⟩) F1 N1 rfl e2 keep2
  refine kxs_method X.kf F2 kinH N2 (so := h₁.objs.size) (x := a) (C := C) (D := C) (by simp) (InstAt.of_exc0 (t := t1) (c2 := .none) N2 (by simp)) opq T.sup T.subB (by decide) (fun q3 h3 F3 N3 l3 => ?_)
  refine kxs_callWith1 (i := i) (x := a) N3 (by simp) (spliced_more (wpAny_Constant_str (spliced_none ⟨kxs_at N3 (by simp), ?_⟩)))
  have in3 : K.In h3 := kinH.keeps F3.keep
  refine call_wrap X (e := a) (t0 := t1) (in3 _ _ hC) (N3 (a, excObj C t1 none .none) (by simp)).1 (N3 (q3, kxs_mw i a) (by simp)).1 (by rw [sizeLine_eq]; simp) (fun h4 keep4 he4 _ => ?_)
  obtain ⟨oL, esL, epL, hL, restL⟩ := F3.ns
  have neL : s.heap.objs.size ≠ a := fun z => (N3 (a, excObj C t1 none .none) (by simp)).2.1 z.symm
  have hL4 : h4.Ns s.heap.objs.size (fun y => [(("self" : Str), Value.ref a)].reverse.lookup y) := ⟨oL, esL, epL, keep4 _ _ neL hL, restL⟩
  have all4 : ∀ b o, b ≠ a → s.heap.get? b = some o → h4.get? b = some o := fun b o n e =>
    keep4 b o n (F3.keep b o ((Heap.hide_ne s.heap n).trans e))
  have in4 : K.In h4 := env.mod.kin.keeps fun b o e => all4 b o (neA (bh b o e)) (bk b o e)
  refine wpAt_of_wpAny (wpAny_execs_nil ?_)
  obtain ⟨un, ok⟩ := excSame (P := P) (w := w) (fs := frs outer) env.hok ea all4 he4
  exact ⟨.non, H, rfl, env.bare, un, ok, rfl, q⟩
end
section
variable {X : Cx} {x : Str} {C fI : Addr} {k : Nat} {fd : FuncData} {p pos : Pos} {B newId i : String} {bmB : List Value}
/-- C() as a value -/
theorem pe_no (MK : Maker newId bmB) (T : XC X.K C B newId i bmB) (iC : findIn X.K (.ref C) "__init__" = some (some (.ref fI))) (tI : typeIn X.K (.ref fI) = some (.type "function"))
    (F1 : FnOk X.prog X.w X.K X.mg X.base CX0 k fI fd [("self" : Str)] (xNo C)) (room : Room (k + 1) X.A) (hb : Binds X.K fd [("self" : Str)] []) (hg : Gl X x) (hm : X.mg x = some (.ref C)) (hdb : (x == ("__debug__" : Str)) = false := by decide) :
    PE X (.Call (.Name x p) [] [] pos) (fun _ H Q => ∀ a, H a = none → Q (.ref a) (upd H a (exo a C none))) := by
  constructor
  intro pins s σ H Q I q1
  obtain ⟨nm, q, N, bs, bm, sn, sub, ab, col, dd, k0, k1, k2, k3, k5, hC, htail⟩ := T.cls
  obtain ⟨MM, iM, bmM, FM, up0⟩ := MK.ex
  refine wpAny_Call_Name_kw (ld_glob I hg hm ?_ hdb)
  refine PySem.W.callWith_K0 I.kIn T.kC ?_
  show wpAny _ _ (call (.ref C) []) _ _ _
  obtain ⟨hp, g, dr, tk, os⟩ := s
  have up : ∀ b o, hp.get? b = some o → ((hp.push (PySem.W.kdv_tup [])).push (PySem.HandSPX.excO C hp.objs.size)).get? b = some o := fun b o e =>
    Heap.get?_push_of_some _ (Heap.get?_push_of_some _ e)
  have fresh : H (hp.objs.size + 1) = none := I.hok.fresh (Nat.le_succ _)
  have there : ((hp.push (PySem.W.kdv_tup [])).push (PySem.HandSPX.excO C hp.objs.size)).get? (hp.objs.size + 1) = some (PySem.HandSPX.excO C hp.objs.size) := by heap_get
  have I2 : Inv X pins σ (upd H (hp.objs.size + 1) (exo (hp.objs.size + 1) C none)) ⟨(hp.push (PySem.W.kdv_tup [])).push (PySem.HandSPX.excO C hp.objs.size), g, dr, tk, os⟩ :=
    I.laid (t' := tk) up (Nat.le_succ _) (exo_ok there)
  have want : xNo C [V.ref (hp.objs.size + 1)] (upd H (hp.objs.size + 1) (exo (hp.objs.size + 1) C none)) (fun v H3 => v = .non ∧ Q (.ref (hp.objs.size + 1)) H3) E0 := ⟨_, rfl, upd_same, rfl, q1 _ fresh⟩
  refine wpAny_call (up_call FM (up_tail htail up0) (I.kIn _ _ hC) (Nat.zero_le _) (PySem.W.looks_findIn I.kIn iC) (fun self => PySem.W.bind_fn I.kIn self tI) ?_)
  have r2 : Vals [V.ref (hp.objs.size + 1)] [Value.ref (hp.objs.size + 1)] := .cons rfl .nil
  refine codeAny_mono (F1.run _ X.stack _ _ ⟨[Value.ref (hp.objs.size + 1)], []⟩ [Value.ref (hp.objs.size + 1)] _ _ E0 (room.make C [] []) (I2.env0.make C [] []) (hb _ [Value.ref (hp.objs.size + 1)] I2.kIn (by simp)) r2 want) ?_
  intro r s' hq
  cases r with
  | error er => exact False.elim hq
  | ok fl =>
    cases fl with
    | ret v =>
      obtain ⟨v2, H2, J, rv, ev, q2⟩ := I2.after hq
      subst ev
      exact ⟨rv, V.ref (hp.objs.size + 1), H2, J, rfl, q2⟩
    | next => exact False.elim hq
    | brk => exact False.elim hq
    | cont => exact False.elim hq
end
end JgX
namespace JgH
open PySem PySem.Spec PyProof.Rows HotX
/-! ### ends of iterators while an exception is handled -/
section
variable {prog : Program} {w : World} {A : Around} {E : Value → Shared → Prop} {s : Shared} {x1 : Addr}
/-- a StopIteration, made and raised there: what stood stands -/
theorem stop_hot {α : Type} {Q : α → Shared → Prop} (hot : HotAt A x1 s.heap)
    (hE : ∀ h' e, (∀ c o, s.heap.get? c = some o → h'.get? c = some o) → (∃ o, h'.get? e = some o ∧ o.cls = .type "StopIteration") → E (.ref e) { s with heap := h' }) :
    wpAny (model prog w) A ((do let e ← newExc (.type "StopIteration") []; raiseNew e) : Sem α) Q E s := by
  obtain ⟨hh, o1, vs1, g1, d1, c1⟩ := hot
  refine wpAny_bind ?_
  simp only [newExc, newTuple]
  refine wpAny_bind (wpAny_newObj_type ?_ (by size_fits))
  refine wpAny_bind (m := firstArgMember _ _) (wpAny_of_eq (a := Value.none) (by first | rfl | (simp only [firstArgMember]; rfl)) (wpAny_newObj_type ?_ (by size_fits)))
  have keep : ∀ {a b : Obj} (c : Addr) (o : Obj), s.heap.get? c = some o → ((s.heap.push a).push b).get? c = some o := fun c o e => Heap.get?_push_of_some _ (Heap.get?_push_of_some _ e)
  have lt : ∀ {a : Obj} {c : Addr} {o : Obj}, s.heap.get? c = some o → c ≠ (s.heap.push a).objs.size := fun e => Nat.ne_of_lt (Heap.lt_size (Heap.get?_push_of_some _ e))
  refine raiseNew_hot ⟨hh, o1, vs1, keep _ _ g1, d1, c1⟩ (lt g1) (Heap.get?_push_size _ rfl) rfl (by first | (simp; done) | (simp; omega)) (hE _ _ (fun c o e => ?_) ⟨_, Heap.get?_update_self _ (Heap.get?_push_size _ rfl) rfl, rfl⟩)
  rw [Heap.get?_update_other _ _ (lt e).symm]
  exact keep _ _ e
/-- the end of a list's iterator -/
theorem lend_hot {it l : Addr} {i : Nat} {items} {Q : Value → Shared → Prop} (hot : HotAt A x1 s.heap) (ne : x1 ≠ it) (hit : s.heap.IsListIter it l i) (hl : s.heap.IsList l items) (hx : items[i]? = none)
    (hE : ∀ h' e, (∀ c o, c ≠ it → s.heap.get? c = some o → h'.get? c = some o) → (∃ o, h'.get? e = some o ∧ o.cls = .type "StopIteration") → E (.ref e) { s with heap := h' }) :
    wpAny (model prog w) A (Builtin.SmallTypes.nextOf (.ref it)) Q E s := by
  obtain ⟨io, gi, ci, di⟩ := id hit
  obtain ⟨lo, gl, _, nl, dl⟩ := hl
  obtain ⟨hh, o1, vs1, g1, d1, c1⟩ := hot
  unfold Builtin.SmallTypes.nextOf
  refine wpAny_bind (wpAny_callSpecial?_slot (name := Str.ofString "__next__") hit.typeIs slot_listiter_next (wpAny_call_entry slot_listiter_next hit.typeIs entry_listiter_next ?_ (args_listiter_next _)))
  refine wpAny_bind (m := field (.ref it) 0) (wpAny_field gi di (x := .ref l) rfl ?_)
  have nn : ¬ ((Value.ref l == Value.none) = true) := Bool.false_ne_true
  show wpAny _ _ (if (Value.ref l == Value.none) = true then _ else _) _ _ s
  rw [if_neg nn]
  refine wpAny_bind (m := field (.ref it) 1) (wpAny_field gi di (x := .int i 0) rfl (wpAny_bind (m := seqItems? (.ref l)) (wpAny_seqItems gl dl ?_)))
  simp only [Int.toNat_natCast, hx]
  refine wpAny_bind (wpAny_rule (wpAny_bind (wpAny_setField gi di (by simp) ?_)))
  have keep : ∀ c o, c ≠ it → s.heap.get? c = some o → (s.heap.update it (Obj.mapFields (·.setIfInBounds 0 .none))).get? c = some o := fun c o n e => by
    rw [Heap.get?_update_other _ _ n.symm]
    exact e
  exact stop_hot (s := { s with heap := _ }) ⟨hh, o1, vs1, keep _ _ ne g1, d1, c1⟩ fun h' e k x => hE h' e (fun c o n q => k c o (keep c o n q)) x
/-- the end of zip, its first list at its end -/
theorem zend_hot {z TI TO i1 i2 l1 l2 : Addr} {k1 : Nat} {xs : Array Value} {a b : Value} {Q : Fin → Shared → Prop} (hot : HotAt A x1 s.heap) (nz : x1 ≠ z) (n1 : x1 ≠ i1) (D : ZipApart z TI TO i1 i2 l1 l2)
    (hz : IsZip s.heap z TI TO .none) (hTI : IsPair s.heap TI (.ref i1) (.ref i2)) (hTO : IsPair s.heap TO a b) (h1 : s.heap.IsListIter i1 l1 k1) (hl1 : s.heap.IsList l1 xs) (hend : xs[k1]? = none)
    (hE : ∀ h' e, (∀ c o, c ≠ z → c ≠ i1 → s.heap.get? c = some o → h'.get? c = some o) → (∃ o, h'.get? e = some o ∧ o.cls = .type "StopIteration") → E (.ref e) { s with heap := h' }) :
    wpAny (model prog w) A (Builtin.«zip.__next__» ⟨[.ref z], []⟩) Q E s := by
  obtain ⟨hh, o1, vs1, g1, d1, c1⟩ := hot
  refine wpAny_bind (m := field (.ref z) 2) (wpAny_field hz rfl (x := .bool false) rfl ?_)
  refine wpAny_bind (m := field (.ref z) 3) (wpAny_field hz rfl (x := .ref TI) rfl (wpAny_bind (wpAny_seqItems hTI rfl ?_)))
  refine wpAny_bind (m := Builtin.SmallTypes.ownedTupleIsFree (.ref z)) ?_
  unfold Builtin.SmallTypes.ownedTupleIsFree
  refine wpAny_bind (wpAny_field hz rfl (x := .none) rfl (wpAny_pure ?_))
  simp only [if_true]
  refine wpAny_bind (wpAny_rule (wpAny_bind (wpAny_field hz rfl (x := .ref TO) rfl (wpAny_bind (wpAny_setField_rec hz (by simp) fun g zg sg => ?_)))))
  have zg : IsZip g z TI TO .ellipsis := zg
  refine wpAny_bind ?_
  simp only [List.zipIdx_cons, List.zipIdx_nil, List.forIn_cons, List.forIn_nil]
  refine wpAny_bind (wpAny_bind (wpAny_onRaise (wpAny_bind (m := Builtin.SmallTypes.nextOf (.ref i1)) ?_)))
  have hot2 : HotAt A x1 g := ⟨hh, o1, vs1, sg.extBut _ _ nz g1, d1, c1⟩
  refine lend_hot (s := { s with heap := g }) hot2 n1 (h1.extBut sg.extBut D.i1z) (hl1.extBut sg.extBut D.l1z) hend fun g2 e k he => ?_
  obtain ⟨oe, hoe, hce⟩ := he
  have z2 : IsZip g2 z TI TO .ellipsis := k _ _ D.i1z.symm zg
  have ez : e ≠ z := fun x => by
    rw [x, z2] at hoe
    cases hoe
    simp at hce
  exact wpAny_setField_rec z2 (by simp) fun g3 _ s3 => hE g3 e (fun c o nc1 nc2 q => s3.extBut _ _ nc1 (k _ _ nc2 (sg.extBut _ _ nc1 q))) ⟨oe, s3.extBut _ _ ez hoe, hce⟩
theorem zip_end_hot {z TI TO i1 i2 l1 l2 : Addr} {k1 : Nat} {xs : Array Value} {a b : Value} {Q : Option Value → Shared → Prop} (hot : HotAt A x1 s.heap) (nz : x1 ≠ z) (n1 : x1 ≠ i1) (D : ZipApart z TI TO i1 i2 l1 l2)
    (hz : IsZip s.heap z TI TO .none) (hTI : IsPair s.heap TI (.ref i1) (.ref i2)) (hTO : IsPair s.heap TO a b) (h1 : s.heap.IsListIter i1 l1 k1) (hl1 : s.heap.IsList l1 xs) (hend : xs[k1]? = none)
    (q : ∀ h', (∀ c o, c ≠ z → c ≠ i1 → s.heap.get? c = some o → h'.get? c = some o) → Q none { s with heap := h' }) : wpAny (model prog w) A (pyNext (.ref z)) Q E s := by
  have ty : s.TypeIs (.ref z) "zip" := ⟨_, hz, rfl⟩
  unfold pyNext
  refine wpAny_bind (wpAny_attempt (wpAny_callSpecial?_slot (name := Str.ofString "__next__") ty F.slot_zip_next (wpAny_call_entry F.slot_zip_next ty F.entry_zip_next (zend_hot hot nz n1 D hz hTI hTO h1 hl1 hend fun h' e hk ⟨o, ho, hc⟩ => ?_) (F.args_zip_next_1 _))))
  exact wpAny_bind (wpAny_isInstance (T := "StopIteration") (b := true) ⟨o, ho, hc⟩ isSubtype_stop (wpAny_pure (q _ hk)))
/-- the end of a tuple's iterator -/
theorem tend_hot {it l : Addr} {i : Nat} {items : Array Value} {Q : Option Value → Shared → Prop} (hot : HotAt A x1 s.heap) (ne : x1 ≠ it) (hit : s.heap.IsTupleIter it l i) (hl : s.heap.IsTuple l items) (hx : items[i]? = none)
    (q : ∀ h', (∀ c o, c ≠ it → s.heap.get? c = some o → h'.get? c = some o) → Q none { s with heap := h' }) : wpAny (model prog w) A (pyNext (.ref it)) Q E s := by
  obtain ⟨io, gi, ci, di⟩ := id hit
  obtain ⟨lo, gl, _, nl, dl⟩ := hl
  obtain ⟨hh, o1, vs1, g1, d1, c1⟩ := hot
  unfold pyNext
  refine wpAny_bind (wpAny_attempt (wpAny_callSpecial?_slot (name := Str.ofString "__next__") hit.typeIs F.slot_tuple_iterator_next (wpAny_call_entry F.slot_tuple_iterator_next hit.typeIs F.entry_tuple_iterator_next ?_ (F.args_tuple_iterator_next_1 _))))
  refine wpAny_bind (m := field (.ref it) 0) (wpAny_field gi di (x := .ref l) rfl ?_)
  have nn : ¬ ((Value.ref l == Value.none) = true) := Bool.false_ne_true
  show wpAny _ _ (if (Value.ref l == Value.none) = true then _ else _) _ _ s
  rw [if_neg nn]
  refine wpAny_bind (m := field (.ref it) 1) (wpAny_field gi di (x := .int i 0) rfl (wpAny_bind (m := seqItems? (.ref l)) (wpAny_seqItems gl dl ?_)))
  simp only [Int.toNat_natCast, hx]
  refine wpAny_bind (wpAny_rule (wpAny_bind (wpAny_setField gi di (by simp) ?_)))
  have keep : ∀ c o, c ≠ it → s.heap.get? c = some o → (s.heap.update it (Obj.mapFields (·.setIfInBounds 0 .none))).get? c = some o := fun c o n e => by
    rw [Heap.get?_update_other _ _ n.symm]
    exact e
  refine stop_hot (s := { s with heap := _ }) ⟨hh, o1, vs1, keep _ _ ne g1, d1, c1⟩ fun h' e k ⟨oe, hoe, hce⟩ => ?_
  exact wpAny_bind (wpAny_isInstance (T := "StopIteration") (b := true) ⟨oe, hoe, hce⟩ isSubtype_stop (wpAny_pure (q _ fun c o n z => k c o (keep c o n z))))
/-- (a, b, ..) = a tuple of that length -/
theorem assign_hot {env : Env} {elts : List Expr} {k : Nat} {pos : Pos} {t : Addr} {items : Array Value} {Q : Unit → Shared → Prop} (hot : HotAt A x1 s.heap) (ht : s.heap.IsTuple t items)
    (hn : (assignEach elts env).length = items.size) (hstar : (assignEach elts env).findIdx? (·.1) = none)
    (q : ∀ h', (∀ c o, s.heap.get? c = some o → h'.get? c = some o) → wpAny (model prog w) A (assignInOrder ((assignEach elts env).map (·.2)) items.toList) Q E { s with heap := h' }) :
    wpAny (model prog w) A (assign (.Tuple elts k pos) env (.ref t)) Q E s := by
  have tn : t ≠ s.heap.objs.size := by
    obtain ⟨o, ho, _⟩ := ht
    exact Nat.ne_of_lt (Heap.lt_size ho)
  have xn : x1 ≠ s.heap.objs.size := by
    obtain ⟨_, o, _, ho, _⟩ := hot
    exact Nat.ne_of_lt (Heap.lt_size ho)
  rw [arm_assign_Tuple]
  refine wpAny_bind (wpAny_standAt ?_)
  unfold unpack
  rw [hn, hstar]
  refine wpAny_bind (wpAny_holding ?_)
  unfold unpackItems notIterableAtAll
  refine wpAny_bind (wpAny_bind (wpAny_specialOf ht.typeIs F.slot_tuple_iter.lookup (wpAny_pure ?_)))
  simp only [Bool.false_eq_true, if_false]
  refine wpAny_bind (wpAny_holding (wpAny_pyIter_tuple ht (wpAny_bind (wpAny_holding (wpAny_draw_tuple tn items.size 0 _ _ ⟨_, Heap.get?_push_size _ rfl, rfl, rfl⟩ (ht.push _) (by omega) fun g1 it1 s1 => ?_)))))
  rw [List.drop_zero, List.take_of_length_le (by simp), if_neg (by simp)]
  have up : ∀ c o, s.heap.get? c = some o → g1.get? c = some o := fun c o e => s1.extBut c o (Nat.ne_of_lt (Heap.lt_size e)) (Heap.get?_push_of_some _ e)
  have hot1 : HotAt A x1 g1 := by
    obtain ⟨hh, o, vs, ho, r⟩ := hot
    exact ⟨hh, o, vs, up _ _ ho, r⟩
  refine wpAny_bind (wpAny_holding (tend_hot (s := { s with heap := g1 }) hot1 xn it1 ((ht.push _).extBut s1.extBut tn) (by simp) fun g2 k2 => ?_))
  simp only [Option.isSome_none, Bool.false_eq_true, if_false]
  exact wpAny_pure (q g2 fun c o e => k2 c o (Nat.ne_of_lt (Heap.lt_size e)) (up c o e))
end
end JgH
namespace JgH
open PySem PySem.Spec PyProof.Rows HotX L2 L2H
/-! ### zip of two lists, turn by turn, whatever is handled -/
structure Zst (z TI TO i1 i2 a b : Addr) (i : Nat) (h : Heap) : Prop where
  zip : IsZip h z TI TO .none
  ins : IsPair h TI (.ref i1) (.ref i2)
  out : ∃ x y, IsPair h TO x y
  it1 : h.IsListIter i1 a i
  it2 : h.IsListIter i2 b i
theorem mem5 {c z TI TO i1 i2 : Addr} : c ∈ [z, TI, TO, i1, i2] ↔ c = z ∨ c = TI ∨ c = TO ∨ c = i1 ∨ c = i2 := by simp
theorem Zst.obj {z TI TO i1 i2 a b c : Addr} {i : Nat} {h : Heap} (S : Zst z TI TO i1 i2 a b i h) (m : c ∈ [z, TI, TO, i1, i2]) : ∃ o, h.get? c = some o ∧ ∀ v, o.data ≠ .cell v := by
  obtain ⟨s1, s2, ⟨x, y, s3⟩, ⟨o4, e4, _, d4⟩, ⟨o5, e5, _, d5⟩⟩ := S
  rcases mem5.mp m with rfl | rfl | rfl | rfl | rfl
  · exact ⟨_, s1, fun v z => by cases z⟩
  · exact ⟨_, s2, fun v z => by cases z⟩
  · exact ⟨_, s3, fun v z => by cases z⟩
  · exact ⟨_, e4, fun v z => by (rw [d4] at z; cases z)⟩
  · exact ⟨_, e5, fun v z => by (rw [d5] at z; cases z)⟩
theorem Zst.keep {z TI TO i1 i2 a b : Addr} {i : Nat} {h g : Heap} (S : Zst z TI TO i1 i2 a b i h) (k : ∀ c ∈ [z, TI, TO, i1, i2], ∀ o, h.get? c = some o → g.get? c = some o) : Zst z TI TO i1 i2 a b i g := by
  obtain ⟨s1, s2, ⟨x, y, s3⟩, s4, s5⟩ := S
  exact ⟨k _ (by simp) _ s1, k _ (by simp) _ s2, ⟨x, y, k _ (by simp) _ s3⟩, s4.at fun o e => k _ (by simp) o e, s5.at fun o e => k _ (by simp) o e⟩
section
variable {X : Cx} {pins : List (Addr × Obj)} {σ : L2.St} {H : Hp} {s : Shared} {z TI TO i1 i2 a b : Addr} {xs ys : List V} {E : Value → Shared → Prop}
theorem zip_item {elts : List Expr} {kk i : Nat} {tpos : Pos} {x y : V} (D : ZipApart z TI TO i1 i2 a b) (I : L2.Inv X pins σ H s) (F : ∀ c ∈ [z, TI, TO, i1, i2], FpOk X pins H c) (S : Zst z TI TO i1 i2 a b i s.heap)
    (h1 : SqL X.K H a xs) (h2 : SqL X.K H b ys) (e1 : xs[i]? = some x) (e2 : ys[i]? = some y) :
    wpAny (model X.prog X.w) X.A (pyNext (.ref z)) (fun r t1 => ∃ T, r = some (.ref T) ∧ H T = none ∧ wpAny (model X.prog X.w) X.A (letOwnedTupleGo (.Tuple elts kk tpos) (.ref z) (.ref T)) (fun _ t2 =>
      L2.Inv X pins σ (upd H T (.tup [x, y])) t2 ∧ Zst z TI TO i1 i2 a b (i + 1) t2.heap ∧ ∀ c ∈ [z, TI, TO, i1, i2], (upd H T (.tup [x, y])) c = none) E t1) E s := by
  have S0 := S
  obtain ⟨s1, s2, ⟨x0, y0, s3⟩, s4, s5⟩ := S0
  obtain ⟨us, ru, pu, _⟩ := I.list h1
  obtain ⟨ws, rw', pw, _⟩ := I.list h2
  obtain ⟨u, gu, r1⟩ := ru.get e1
  obtain ⟨w, gw, r2⟩ := rw'.get e2
  have new : H s.heap.objs.size = none := I.hok.fresh (Nat.le_refl _)
  have lt : ∀ c ∈ [z, TI, TO, i1, i2], c ≠ s.heap.objs.size := fun c m => by
    obtain ⟨o, e, _⟩ := S.obj m
    exact Nat.ne_of_lt (Heap.lt_size e)
  refine wpAny_pyNext_zip_item D s1 s2 s3 s4 s5 pu.isList pw.isList (x := u) (y := w) (by simpa using gu) (by simpa using gw) fun g t1 t2 t3 t4 t5 _ tk => ⟨_, rfl, new, ?_⟩
  refine wpAny_letOwnedTupleGo_zip (s := { s with heap := g }) t1 fun g2 v1 sb => ?_
  have up : ∀ c o, c ∉ [z, TI, TO, i1, i2] → s.heap.get? c = some o → g2.get? c = some o := fun c o m e => by
    have m := fun k => m (mem5.mpr k)
    rw [sb.2 c fun k => m (Or.inl k)]
    exact tk c o (fun k => m (Or.inl k)) (fun k => m (Or.inr (Or.inr (Or.inl k)))) (fun k => m (Or.inr (Or.inr (Or.inr (Or.inl k))))) (fun k => m (Or.inr (Or.inr (Or.inr (Or.inr k))))) e
  have nz : s.heap.objs.size ≠ z := (lt z (by simp)).symm
  have made : ObjOk X.prog X.w (upd H s.heap.objs.size (.tup [x, y])) g2 s.heap.objs.size (.tup [x, y]) :=
    ⟨(by decide : 2 ≤ sizeLine), [u, w], .cons r1 (.cons r2 .nil), ⟨_, (sb.2 _ nz).trans t5, rfl, _, rfl⟩⟩
  refine ⟨I.turnedNew (t' := s.toks) up F (Nat.le_refl _) made, ⟨v1, (sb.2 _ D.TIz).trans (tk _ _ D.TIz D.TITO D.TIi1 D.TIi2 s2), ⟨u, w, (sb.2 _ D.TOz).trans t2⟩, t3.at fun o e => (sb.2 _ D.i1z).trans e, t4.at fun o e => (sb.2 _ D.i2z).trans e⟩, fun c m => ?_⟩
  rw [upd_ne (lt c m)]
  exact (F c m).1
theorem zip_done {x1 : Addr} {i : Nat} (hot : HotAt X.A x1 s.heap) (ne : ∀ c ∈ [z, TI, TO, i1, i2], x1 ≠ c) (D : ZipApart z TI TO i1 i2 a b) (I : L2.Inv X pins σ H s) (F : ∀ c ∈ [z, TI, TO, i1, i2], FpOk X pins H c) (S : Zst z TI TO i1 i2 a b i s.heap)
    (h1 : SqL X.K H a xs) (l : xs.length ≤ i) : wpAny (model X.prog X.w) X.A (pyNext (.ref z)) (fun r t1 => r = none ∧ L2.Inv X pins σ H t1) E s := by
  obtain ⟨s1, s2, ⟨x0, y0, s3⟩, s4, s5⟩ := S
  obtain ⟨us, ru, pu, _⟩ := I.list h1
  have lu := ru.length
  refine zip_end_hot hot (ne z (by simp)) (ne i1 (by simp)) D s1 s2 s3 s4 pu.isList (by simp; omega) fun g k => ⟨rfl, I.turnedL (t' := s.toks) (ch := [z, TI, TO, i1, i2]) (fun c o m e => ?_) F⟩
  have m := fun k => m (mem5.mpr k)
  exact k c o (fun k => m (Or.inl k)) (fun k => m (Or.inr (Or.inr (Or.inr (Or.inl k))))) e
end
/-- [elt for a, b in zip(..) if ..]: D the new list, W what holds behind so many turns -/
def zipIn (K : PySem.W.Frag) (gs : TGs) (tt : TT) (te : TE) (vs : List Nat) (σ : L2.St) (Q : VK) : List V → Hp → Prop := fun us H1 => ∃ a b xs ys, us = [.ref a, .ref b] ∧ SqL K H1 a xs ∧ SqL K H1 b ys ∧ xs.length = ys.length ∧ ∀ D, H1 D = none → ∃ W : Nat → Hp → Prop,
  W 0 (upd H1 D (.lst [])) ∧ (∀ i H, W i H → SqL K H a xs ∧ SqL K H b ys) ∧ (∀ H, W xs.length H → Q (.ref D) H) ∧ ∀ i x y H T, W i H → xs[i]? = some x → ys[i]? = some y → H T = none →
    gs [x, y] (wipe σ vs) (upd H T (.tup [x, y])) fun σ2 H2 => wipe σ2 vs = wipe σ vs ∧ tt σ2 H2 fun c H3 => if c = true then te σ2 H3 fun v H4 => ∃ acc, H4 D = some (.lst acc) ∧ acc.length < sizeLine ∧ W (i + 1) (upd H4 D (.lst (acc ++ [v]))) else W (i + 1) H3
def tZip (K : PySem.W.Frag) (ta : TA) (gs : TGs) (tt : TT) (te : TE) (vs : List Nat) : TE := fun σ H Q => ta σ H (zipIn K gs tt te vs σ Q)
theorem g_zip {K : PySem.W.Frag} {ta : TA} {gs : TGs} {tt : TT} {te : TE} {vs : List Nat} {σ : L2.St} {H : Hp} {Q : VK} (q : ta σ H (zipIn K gs tt te vs σ Q)) : tZip K ta gs tt te vs σ H Q := q
section
variable {X : Cx} {elt e1 e2 : Expr} {elts ifs : List Expr} {scope : Scope} {own : List (Str × Nat)} {pos zp zq tpos : Pos} {kk : Nat} {ta : TA} {gs : TGs} {tt : TT} {te : TE}
abbrev zipComp (elt e1 e2 : Expr) (elts ifs : List Expr) (scope : Scope) (pos zp zq tpos : Pos) (kk : Nat) : Expr := .ListComp elt [⟨.Tuple elts kk tpos, .Call (.Name "zip" zp) [e1, e2] [] zq, ifs, 0⟩] scope pos
/-- the loop alone, in the block's own frame -/
theorem zip_loop {Y : Cx} {ce : Env} {R : Result → Shared → Prop} {pins : List (Addr × Obj)} {σ0 : L2.St} {vs : List Nat} {z TI TO i1 i2 a b D x1 : Addr} {xs ys : List V} {s : Shared} {W : Nat → Hp → Prop} {H0 : Hp} (hce : Y.env = ce)
    (D5 : ZipApart z TI TO i1 i2 a b) (hgs : PGs Y elts gs) (ht : PTs Y ifs tt) (he : PE Y elt te) (hn : (assignEach elts Y.env).length = 2) (hst : (assignEach elts Y.env).findIdx? (·.1) = none)
    (stat : ∀ {H' : Hp} {t : Shared}, L2.Inv Y pins (wipe σ0 vs) H' t → (∀ c ∈ [z, TI, TO, i1, i2], H' c = none) → (∀ c ∈ [z, TI, TO, i1, i2], FpOk Y pins H' c) ∧ HotAt Y.A x1 t.heap) (ne : ∀ c ∈ [z, TI, TO, i1, i2], x1 ≠ c)
    (stat2 : ∀ {σ' : L2.St} {H' : Hp} {t : Shared} {pl : List (Addr × Obj)}, L2.Inv Y (pins ++ pl) σ' H' t → HotAt Y.A x1 t.heap)
    (len : xs.length = ys.length) (keep : ∀ i H, W i H → SqL Y.K H a xs ∧ SqL Y.K H b ys) (fin : ∀ H t, L2.Inv Y pins (wipe σ0 vs) H t → W xs.length H → R (.ok .next) t)
    (step : ∀ i x y H T, W i H → xs[i]? = some x → ys[i]? = some y → H T = none → gs [x, y] (wipe σ0 vs) (upd H T (.tup [x, y])) fun σ2 H2 => wipe σ2 vs = wipe σ0 vs ∧ tt σ2 H2 fun c H3 => if c = true then te σ2 H3 fun v H4 => ∃ acc, H4 D = some (.lst acc) ∧ acc.length < sizeLine ∧ W (i + 1) (upd H4 D (.lst (acc ++ [v]))) else W (i + 1) H3)
    (hx : Y.xe = fun _ _ => False) (I : L2.Inv Y pins (wipe σ0 vs) H0 s) (F : ∀ c ∈ [z, TI, TO, i1, i2], H0 c = none) (S : Zst z TI TO i1 i2 a b 0 s.heap) (w0 : W 0 H0) :
    codeAny (model Y.prog Y.w) Y.A (.compLoop (zipComp elt e1 e2 elts ifs scope pos zp zq tpos kk) 0 (.ref z) (.ref D) ce) R s := by
  subst hce
  refine compLoop_any (fun m t => ∃ i H', m + i = xs.length ∧ L2.Inv Y pins (wipe σ0 vs) H' t ∧ Zst z TI TO i1 i2 a b i t.heap ∧ (∀ c ∈ [z, TI, TO, i1, i2], H' c = none) ∧ W i H') ?_ xs.length ⟨0, H0, by omega, I, S, F, w0⟩
  rintro m t ⟨i, H1, mi, J, S1, F1, w1⟩
  obtain ⟨q1, q2⟩ := keep i H1 w1
  obtain ⟨FF, hot⟩ := stat J F1
  cases m with
  | zero =>
    refine thnF (zip_done hot ne D5 J FF S1 q1 (by omega)) fun r t1 ⟨er, J1⟩ => ?_
    subst er
    have ei : i = xs.length := by omega
    subst ei
    exact fin H1 t1 J1 w1
  | succ m =>
    have li : i < xs.length := by omega
    have g1 : xs[i]? = some xs[i] := by simp [li]
    have g2 : ys[i]? = some (ys[i]'(len ▸ li)) := by simp [len ▸ li]
    refine thnF (zip_item (elts := elts) (kk := kk) (tpos := tpos) D5 J FF S1 q1 q2 g1 g2) fun r t1 ⟨T, er, hT, lt⟩ => ?_
    subst er
    refine thnF lt fun _ t2 ⟨J2, S2, F2⟩ => ?_
    have FF2 := (stat J2 F2).1
    have J3 := J2.pinned FF2 fun c m => S2.obj m
    have hot3 := stat2 J3
    obtain ⟨its, ri, pi, _⟩ := J3.tuple (Or.inl (Or.inl (upd_same : (upd H1 T (.tup [xs[i], ys[i]'(len ▸ li)])) T = _)))
    have li2 := ri.length
    refine assign_hot hot3 pi (by rw [hn]; simp at li2 ⊢; omega) hst fun g kg => ?_
    have J4 := J3.kept (t' := t2.toks) kg
    have stand : ∀ {H' : Hp} {t' : Shared} {σ' : L2.St}, L2.Inv Y (pins ++ pinsAt [z, TI, TO, i1, i2] t2.heap) σ' H' t' → wipe σ' vs = wipe σ0 vs → W (i + 1) H' → ∃ m', m' < m + 1 ∧ ∃ i H', m' + i = xs.length ∧ L2.Inv Y pins (wipe σ0 vs) H' t' ∧ Zst z TI TO i1 i2 a b i t'.heap ∧ (∀ c ∈ [z, TI, TO, i1, i2], H' c = none) ∧ W i H' := fun {H' t' σ'} K1 ew wn => by
      have pin : ∀ c ∈ [z, TI, TO, i1, i2], ∀ o, t2.heap.get? c = some o → t'.heap.get? c = some o ∧ H' c = none := fun c m o e =>
        have y := K1.pin (c, o) (List.mem_append_right _ (List.mem_append_right _ (mem_pinsAt m e)))
        ⟨y.1, y.2.1⟩
      refine ⟨m, Nat.lt_succ_self m, i + 1, H', by omega, K1.unpinned.weak (by rw [← ew, wipe_length]) (fun j v e => ?_), S2.keep fun c m o e => (pin c m o e).1, fun c m => ?_, wn⟩
      · rw [← ew] at e
        exact (wipe_some e).1
      · obtain ⟨o, e, _⟩ := S2.obj m
        exact (pin c m o e).2
    refine wpAny_mono (hgs.run _ _ _ _ _ _ _ J4 ri (step i _ _ H1 T w1 g1 g2 hT)) (fun _ t3 ⟨σ3, H3, J5, ew, q3⟩ => ?_) (fun e t' x => by (rw [hx] at x; exact x.elim))
    refine wpAny_mono (ht.run _ _ _ _ _ J5 q3) (fun c t4 ⟨H4, J6, q4⟩ => ?_) (fun e t' x => by (rw [hx] at x; exact x.elim))
    cases c with
    | false =>
      rw [if_neg Bool.false_ne_true] at q4
      exact stand J6 ew q4
    | true =>
      rw [if_pos rfl] at q4
      refine wpAny_mono (he.run _ _ _ _ _ J6 q4) (fun v t5 ⟨y, H5, J7, ry, acc, eD, sz, wn⟩ => ?_) (fun e t' x => by (rw [hx] at x; exact x.elim))
      exact app_ok J7 eD sz ry fun t6 J8 => stand J8 ew wn
theorem pe_lcZip (hc : HotC X) (hN : X.N.Nodup) (hg : Gl X "zip") (hm : X.mg "zip" = none) (ha : PA X [e1, e2] ta) (ok : BlkOk X.N X.env.scope scope own)
    (hgs : ∀ (s : Shared) (H : Hp) (C : Addr) (cl : List (Str × Addr)) (fp : List Addr), PGs (X.blk s H scope (compEnvC scope cl C X.env) fp) elts gs) (ht : ∀ (s : Shared) (H : Hp) (C : Addr) (cl : List (Str × Addr)) (fp : List Addr), PTs (X.blk s H scope (compEnvC scope cl C X.env) fp) ifs tt)
    (he : ∀ (s : Shared) (H : Hp) (C : Addr) (cl : List (Str × Addr)) (fp : List Addr), PE (X.blk s H scope (compEnvC scope cl C X.env) fp) elt te)
    (hn : ∀ env, (assignEach elts env).length = 2 := by intro _; rfl) (hst : ∀ env, (assignEach elts env).findIdx? (·.1) = none := by intro _; rfl) (hs : ∀ x, foldedSetIterable (.Call (.Name "zip" zp) [e1, e2] [] zq) X.env x = pure x := by intro _; rfl)
    (hse : starEach [e1, e2] X.env = (false, eval e1 X.env) :: starEach [e2] X.env := by rfl) (hpl : (backTo zq (starEach [e2] X.env)).any (·.1) = false := by rfl) :
    PE X (zipComp elt e1 e2 elts ifs scope pos zp zq tpos kk) (tZip X.K ta gs tt te (own.map (·.2))) := by
  refine ⟨fun pins s σ H Q I h => ?_⟩
  have cells : ∀ y ∈ scope.names, y.2 = .free → ∃ c, X.env.cells.lookup y.1 = some c := fun y m e => (ok.free y m e).elim (fun k => I.ok.has _ (.inl k)) fun k => I.ok.has _ (.inr k)
  rw [eval_ListComp]
  refine wpAny_comprehension_free rfl hs (closure_ok cells) ok.kind (fun y m e => (ok.uniq y m).trans (by rw [e])) ?_
  refine Call_ (ld_blt I hg hm PyProof.Rows.boot_zip (PyProof.Rows.callWith_type1 (thn (ha.run zq pins s σ H _ I h) fun us s1 q => ?_) hse hpl))
  obtain ⟨vs, H1, I1, rv, a, b, xs, ys, rfl, q1, q2, len, q⟩ := q
  obtain ⟨u1, u2, rfl, r1, r2⟩ : ∃ u1 u2, us = [u1, u2] ∧ RelV (.ref a) u1 ∧ RelV (.ref b) u2 := by
    cases rv with
    | cons x1 x2 =>
    cases x2 with
    | cons x3 x4 =>
    cases x4
    exact ⟨_, _, rfl, x1, x3⟩
  obtain rfl : u1 = Value.ref a := r1
  obtain rfl : u2 = Value.ref b := r2
  obtain ⟨l1, _, p1, _⟩ := I1.list q1
  obtain ⟨l2, _, p2, _⟩ := I1.list q2
  refine call_zip_2 p1.isList p2.isList fun g z1 z2 z3 z4 z5 _ zk => wpAny_pyIter_zip z1 ?_
  generalize hn0 : s1.heap.objs.size = n0 at *
  have ap : ZipApart (n0 + 4) (n0 + 2) (n0 + 3) n0 (n0 + 1) a b := PySem.W.ktu_apart n0 a b (by rw [← hn0]; exact p1.lt) (by rw [← hn0]; exact p2.lt)
  have I2 : L2.Inv X pins σ H1 { s1 with heap := g } := I1.kept (t' := s1.toks) zk
  have S0 : Zst (n0 + 4) (n0 + 2) (n0 + 3) n0 (n0 + 1) a b 0 g := ⟨z1, z2, ⟨_, _, z3⟩, z4, z5⟩
  have above : ∀ c ∈ [n0 + 4, n0 + 2, n0 + 3, n0, n0 + 1], n0 ≤ c := fun c m => by
    rcases mem5.mp m with rfl | rfl | rfl | rfl | rfl <;> omega
  have F0 : ∀ c ∈ [n0 + 4, n0 + 2, n0 + 3, n0, n0 + 1], FpOk X pins H1 c := fun c m => I1.fpOk (by rw [hn0]; exact above c m) (I1.hok.fresh (by rw [hn0]; exact above c m))
  generalize hs2 : ({ s1 with heap := g } : Shared) = s2 at I2 ⊢
  have S0 : Zst (n0 + 4) (n0 + 2) (n0 + 3) n0 (n0 + 1) a b 0 s2.heap := by rw [← hs2]; exact S0
  refine wpAny_newObj_type (newEnv_comp ?_) (Nat.zero_le _)
  have nD : H1 s2.heap.objs.size = none := I2.hok.fresh (Nat.le_refl _)
  obtain ⟨W, w0, keep, fin, step⟩ := q _ nD
  generalize hD : s2.heap.objs.size = D at nD w0 fin step ⊢
  generalize hs3 : ({ s2 with heap := s2.heap.push { cls := .type "list", data := .seq ([] : List Value).toArray } } : Shared) = s3
  have g3 : s3.heap = s2.heap.push { cls := .type "list", data := .seq ([] : List Value).toArray } := by rw [← hs3]
  have I3 : L2.Inv X pins σ (upd H1 D (.lst [])) s3 := by
    subst hs3
    refine I2.laid (t' := s2.toks) (fun c o e => Heap.get?_push_of_some _ e) (Nat.le_of_eq hD) ⟨Nat.zero_le _, [], 0, .nil, ?_⟩
    subst hD
    exact Heap.get?_push_size _ rfl
  have lt3 : ∀ c ∈ [n0 + 4, n0 + 2, n0 + 3, n0, n0 + 1], c < s2.heap.objs.size := fun c m => by
    obtain ⟨o, e, _⟩ := S0.obj m
    exact Heap.lt_size e
  have F3 : ∀ c ∈ [n0 + 4, n0 + 2, n0 + 3, n0, n0 + 1], FpOk X pins (upd H1 D (.lst [])) c ∧ c < s3.heap.objs.size := fun c m => by
    refine ⟨⟨?_, (F0 c m).2⟩, by rw [g3, Heap.size_push]; exact Nat.lt_succ_of_lt (lt3 c m)⟩
    rw [upd_ne (by rw [← hD]; exact Nat.ne_of_lt (lt3 c m))]
    exact (F0 c m).1
  have S3 : Zst (n0 + 4) (n0 + 2) (n0 + 3) n0 (n0 + 1) a b 0 s3.heap := S0.keep fun c _ o e => by (rw [g3]; exact Heap.get?_push_of_some _ e)
  have J := block_start I3 ok hN F3
  generalize hH3 : upd H1 D (.lst []) = H3 at *
  have N0 : ∀ c ∈ [n0 + 4, n0 + 2, n0 + 3, n0, n0 + 1], H3 c = none := fun c m => (F3 c m).1.1
  obtain ⟨pn, hot1, hpn⟩ := hc
  have hotX : HotC X := ⟨pn, hot1, hpn⟩
  have apart : ∀ c ∈ [n0 + 4, n0 + 2, n0 + 3, n0, n0 + 1], pn.1 ≠ c := fun c m => (F3 c m).1.2.2.2.2.2 pn (List.mem_append_left _ hpn)
  have go := hgs s3 H3 s3.heap.objs.size (cellsFrom (s3.heap.objs.size + 1) scope.names (cloFrom X.env.cells scope.names [])) [n0 + 4, n0 + 2, n0 + 3, n0, n0 + 1]
  have to := ht s3 H3 s3.heap.objs.size (cellsFrom (s3.heap.objs.size + 1) scope.names (cloFrom X.env.cells scope.names [])) [n0 + 4, n0 + 2, n0 + 3, n0, n0 + 1]
  have eo := he s3 H3 s3.heap.objs.size (cellsFrom (s3.heap.objs.size + 1) scope.names (cloFrom X.env.cells scope.names [])) [n0 + 4, n0 + 2, n0 + 3, n0, n0 + 1]
  show codeAny _ _ (.compStart (zipComp elt e1 e2 elts ifs scope pos zp zq tpos kk) 0 (.ref (n0 + 4)) (.ref D) (compEnvC scope (cellsFrom (s3.heap.objs.size + 1) scope.names (cloFrom X.env.cells scope.names [])) s3.heap.objs.size X.env)) (compPost (model X.prog X.w) X.A X.xe none _ (.ref D) s3.heap.objs.size) { s3 with heap := pushCells (s3.heap.push { cls := .type "dict", data := .dict #[] }) scope.names }
  generalize hce : compEnvC scope (cellsFrom (s3.heap.objs.size + 1) scope.names (cloFrom X.env.cells scope.names [])) s3.heap.objs.size X.env = ce at J go to eo ⊢
  have cL : ce.locals = s3.heap.objs.size := by subst hce; rfl
  generalize hs4 : ({ s3 with heap := pushCells (s3.heap.push { cls := .type "dict", data := .dict #[] }) scope.names } : Shared) = s4 at J ⊢
  have S4 : Zst (n0 + 4) (n0 + 2) (n0 + 3) n0 (n0 + 1) a b 0 s4.heap := S3.keep fun c _ o e => by (rw [← hs4]; exact pushCells_keeps _ _ _ _ (Heap.get?_push_of_some _ e))
  have back : ∀ {σ' : L2.St} {H' : Hp} {t : Shared} {pl : List (Addr × Obj)}, L2.Inv (X.blk s3 H3 scope ce [n0 + 4, n0 + 2, n0 + 3, n0, n0 + 1]) pl σ' H' t → L2.Inv X pins σ H' t := fun {σ' H' t pl} K1 =>
    I3.call' (ch := [n0 + 4, n0 + 2, n0 + 3, n0, n0 + 1]) K1.os K1.base K1.hok K1.bare fun c m => ⟨(F3 c m).1.2.2.2.1, (F3 c m).1.2.1, (F3 c m).1.2.2.2.2.1, (F3 c m).1.2.2.2.2.2⟩
  have hotAt : ∀ {H' : Hp} {t : Shared}, L2.Inv X pins σ H' t → HotAt X.A pn.1 t.heap := fun {H' t} K1 => by
    obtain ⟨hh, v1, e1, c1⟩ := hot1
    exact ⟨hh, pn.2, v1, (K1.pin pn (List.mem_append_left _ hpn)).1, e1, c1⟩
  have loop := zip_loop (Y := X.blk s3 H3 scope ce [n0 + 4, n0 + 2, n0 + 3, n0, n0 + 1]) (ce := ce) (pins := []) (σ0 := σ) (vs := own.map (·.2)) (s := s4) (H0 := H3) (D := D) (x1 := pn.1) (W := W) (zp := zp) (zq := zq) (tpos := tpos) (kk := kk) (pos := pos) (scope := scope) (e1 := e1) (e2 := e2)
    (R := compPost (model X.prog X.w) X.A X.xe none (EP X pins σ Q) (.ref D) s3.heap.objs.size) rfl ap go to eo (hn _) (hst _)
    (fun {H' t} K1 hnone => ⟨fun c m => ⟨hnone c m, (K1.ok.exf c m).1, K1.ok.exfs c m, .inl m, fun x c' e => (K1.ok.exf c m).2 x c' e, fun p hp => absurd (hp : p ∈ ([] : List (Addr × Obj)) ++ []) (by simp)⟩, hotAt (back K1)⟩) apart (fun {σ' H' t pl} K1 => hotAt (back K1)) len keep
    (fun H' t K1 wn => by
      have K2 := back K1
      obtain ⟨m, hm1, _⟩ := K1.loc
      have hm1 : t.heap.Ns ce.locals m := hm1
      have hfree : H' ce.locals = none := K1.free
      rw [cL] at hm1 hfree
      obtain ⟨f0, f1, f2, f3, f4, f5⟩ := I3.fpOk (Nat.le_refl _) hfree
      exact ⟨m, hm1, fun h'' sb => ⟨.ref D, H', K2.turned (t' := t.toks) (fun c o hb e => (sb.2 c hb).trans e) f0 f1 f3 f4 f5, rfl, fin H' wn⟩⟩)
    step rfl J N0 S4 w0
  exact codeAny_compStart_list loop (wpAny_pyIter_zip S4.zip loop)
end
end JgH
namespace JgH
open PySem PySem.Spec PyProof.Rows HotX L2 L2H
/-- what a def promises that is called while the exception at p.1 is handled, repr's guards being empty; the promise may speak of that exception -/
structure FnX (P : Program) (w : World) (K : PySem.W.Frag) (mg : Str → Option Value) (base : Heap) (k : Nat) (f : Addr) (fd : FuncData) (ps : List Str) (sp : Addr → Value → Option Addr → Sp) : Prop where
  many : ∀ a c d vs H Q E, sp a c d vs H Q E → vs.length = ps.length
  go : ∀ (A : Around) (outer : List Env) (s : Shared) (H : Hp) (args : Args) (us : List Value) (vs : List V) (Q : VK) (E : XK) (p : Addr × Obj),
    RoomH k A → A.guards = some [] → Hot1 A p → PinOk outer H s p → Env0 P w K mg base A outer s H → BindsTo s fd args (ps.zip us) → Vals vs us → sp p.1 p.2.cls p.2.dict vs H Q E → codeAny (model P w) A (.call (.ref f) args) (CR CX0 outer P w H s Q E) s
section
variable {P : Program} {w : World} {K : PySem.W.Frag} {mg : Str → Option Value} {base : Heap}
theorem fnX_of {x qual : Str} {st : Stmt} {f : Addr} {fd : FuncData} {N ps : List Str} {k : Nat} {sp : Addr → Value → Option Addr → Sp} (F : Fun K x qual st f fd) (S : FnScope N ps (defScope st))
    (len : ∀ a c d vs H Q E, sp a c d vs H Q E → vs.length = ps.length)
    (body : ∀ (cdv : Value) (A : Around) (outer : List Env) (s : Shared) (H : Hp) (vs : List V) (Q : VK) (E : XK) (p : Addr × Obj),
      RoomH k (A.deeper (envOfC qual (defScope st) s.heap.objs.size f cdv)) → A.guards = some [] → Hot1 A p → sp p.1 p.2.cls p.2.dict vs H Q E →
      ∃ t, PSs (cxH CX0 P w K mg base N qual (defScope st) f cdv A outer s H E p).nox (defBody st) t ∧ t { nx := fun _ H' => Q .non H', rt := Q } (L2.start N vs) H) :
    FnX P w K mg base (k + 1) f fd ps sp := by
  obtain ⟨oc, od, kV, doc, pm, an, cdv, ct, osl, efd, lk, hcd⟩ := F.ex
  subst efd
  refine ⟨len, fun A outer s H args us vs Q E p room gua hot pin env bnd rel want => ?_⟩
  have kin : K.In s.heap := env.mod.kin.keeps fun b o e => (env.bs b o e).1
  have lim : s.heap.NoLimit := env.mod.nolimit.keeps fun b o e => (env.bs b o e).1
  have kinds : ∀ y ∈ ps.zip us, (defScope st).names.lookup y.1 = some .local ∨ ((defScope st).names.lookup y.1 = some .cell ∧ ((cellsFrom (s.heap.objs.size + 1) (defScope st).names []).lookup y.1).isSome = true) := by
    intro y hy
    cases S.par y.1 (List.of_mem_zip (a := y.1) (b := y.2) hy).1 with
    | inl q => exact Or.inl q
    | inr q => exact Or.inr ⟨q, PySem.W.cellsFrom_some _ _ _ (Or.inl q)⟩
  refine codeAny_call_function room.depth (kin _ _ lk) rfl S.co S.gen rfl (PySem.W.codeRec_of kin hcd) (bnd _ _ _ _ (wpAny_newFunctionEnv_cells S.kind kinds ?_))
  intro e2 he2 s1 x
  subst he2
  refine ⟨lim.keeps x.toInCall.keep, codeAny_func ?_⟩
  obtain ⟨t, ht, hq⟩ := body cdv A outer s H vs Q E p (room.deeper _) gua hot want
  have I := inv_startH (CX := CX0) (qual := qual) (f := f) (cd := cdv) (E := E) S pin env (len _ _ _ _ _ _ _ want) rel x
  refine wpAny_mono (ht.nox.run [] s1 (L2.start N vs) H _ I hq) ?_ (fun e s' hs => hs)
  intro fl s' hs
  cases fl with
  | ret u =>
    obtain ⟨v, σ', H', J, rv, q⟩ := hs
    exact ⟨v, H', J.os, J.bare, J.base, J.hok, rv, q⟩
  | next =>
    obtain ⟨σ', H', J, q⟩ := hs
    exact ⟨V.non, H', J.os, J.bare, J.base, J.hok, rfl, q⟩
  | brk =>
    obtain ⟨σ', H', J, q⟩ := hs
    exact False.elim q
  | cont =>
    obtain ⟨σ', H', J, q⟩ := hs
    exact False.elim q
end
section
variable {X : Cx} {k : Nat} {f : Addr} {fd : FuncData} {ps : List Str} {sp : Addr → Value → Option Addr → Sp} {x : Str} {p pos : Pos} {e : Expr} {es : List Expr} {t : TA} {pn : Addr × Obj}
/-- f(..) of such a def, in the suite or in a def called there -/
theorem pe_callX (F : FnX X.prog X.w X.K X.mg X.base k f fd ps sp) (room : RoomH k X.A) (gua : X.A.guards = some []) (hot : Hot1 X.A pn) (hpn : pn ∈ X.pn) (hg : Gl X x) (hm : X.mg x = some (.ref f)) (hk : PySem.W.keepIn X.K (.ref f) = true)
    (hb : Binds X.K fd ps []) (args : PA X (e :: es) t) (hdb : (x == ("__debug__" : Str)) = false := by decide)
    (he : starEach (e :: es) X.env = (false, eval e X.env) :: starEach es X.env := by rfl) (hpl : (backTo pos (starEach es X.env)).any (·.1) = false := by rfl) :
    PE X (.Call (.Name x p) (e :: es) [] pos) (fun σ H Q => t σ H fun vs H1 => sp pn.1 pn.2.cls pn.2.dict vs H1 Q E0) := by
  constructor
  intro pins s σ H Q I h
  refine wpAny_Call_Name_kw (ld_glob I hg hm ?_ hdb)
  refine PySem.W.callWith_K (h₀ := X.base) I.ok.mod.kin hk (thn (args.run pos pins s σ H _ I h) ?_) he hpl
  rintro us s1 ⟨vs, H1, I1, rel, want⟩
  refine ⟨I1.kIn, ?_⟩
  have hl : (us ++ []).length = ps.length := by
    rw [List.append_nil, ← rel.length]
    exact F.many _ _ _ _ _ _ _ want
  have P1 := I1.pin pn (List.mem_append_left _ hpn)
  have pin : PinOk X.stack H1 s1 pn := ⟨P1.1, P1.2.1, fun m => (List.mem_cons.mp (I1.stkSub pn.1 m)).elim P1.2.2.1 P1.2.2.2.1, P1.2.2.2.2⟩
  have b := hb s1 us I1.kIn hl
  rw [List.append_nil] at b
  refine wpAny_call (codeAny_mono (F.go X.A X.stack s1 H1 ⟨us, []⟩ us vs Q E0 pn room gua hot pin I1.env0 b rel want) ?_)
  intro r s' hq
  cases r with
  | error e => exact False.elim hq
  | ok fl =>
    cases fl with
    | ret u => exact I1.after hq
    | next => exact False.elim hq
    | brk => exact False.elim hq
    | cont => exact False.elim hq
/-- the same in the suite, by what is told of the exception there -/
theorem pe_callXs {a : Addr} {oe : Obj} {cls : Value} {dd : Option Addr} (h1 : oe.cls = cls) (h2 : oe.dict = dd) (F : FnX X.prog X.w X.K X.mg X.base k f fd ps sp) (room : RoomH k X.A) (gua : X.A.guards = some []) (hot : Hot1 X.A (a, oe)) (hpn : (a, oe) ∈ X.pn) (hg : Gl X x) (hm : X.mg x = some (.ref f)) (hk : PySem.W.keepIn X.K (.ref f) = true)
    (hb : Binds X.K fd ps []) (args : PA X (e :: es) t) (hdb : (x == ("__debug__" : Str)) = false := by decide)
    (he : starEach (e :: es) X.env = (false, eval e X.env) :: starEach es X.env := by rfl) (hpl : (backTo pos (starEach es X.env)).any (·.1) = false := by rfl) :
    PE X (.Call (.Name x p) (e :: es) [] pos) (fun σ H Q => t σ H fun vs H1 => sp a cls dd vs H1 Q E0) := by
  subst h1
  subst h2
  exact pe_callX (pn := (a, oe)) F room gua hot hpn hg hm hk hb args hdb he hpl
end
theorem _root_.L2H.RoomH.units {k : Nat} {A : Around} (r : RoomH k A) : A.units + 64 < cLine := by
  have := r.un
  omega
end JgH
namespace JgH
open PySem PySem.Spec PyProof.Rows HotX L2 L2H
/-! ### try: body, except TEST as n: suite, whatever the test is; here one of the named classes is met -/
theorem flying_kept {B h g : Heap} {l : List Env} {a : Addr} {Z : Obj → Prop} (x : HandSPX.FlyingZ B l a Z h) (k : ∀ c o, h.get? c = some o → g.get? c = some o) : HandSPX.FlyingZ B l a Z g := by
  obtain ⟨x1, x2, x3, oe, vs, T, oT, ts, y1, y2, y3, y4, y5, y6, y7, y8, y9⟩ := x
  exact ⟨fun c o e => k c o (x1 c o e), x2, x3.of_keeps fun b o e _ => ⟨o, k b o e, rfl⟩, oe, vs, T, oT, ts, k _ _ y1, y2, y3, y4, y5, y6, k _ _ y7, y8, y9⟩
/-- what a test of an except clause tells of a class, nothing but new things laid -/
def TestOk (X : Cx) (T : Expr) (m : Value → Option Bool) : Prop := ∀ {a : Addr} {pn pins : List (Addr × Obj)} {σ : L2.St} {H : Hp} {s : Shared} {cls : Value} {b : Bool} {A : Around} {Q : Bool → Shared → Prop} {E1 E2 : Value → Shared → Prop},
  L2.Inv (X.suite a pn) pins σ H s → PySem.W.Looks (model X.prog X.w) s.heap (typeOf (.ref a)) cls → m cls = some b → (∀ g, (∀ c o, s.heap.get? c = some o → g.get? c = some o) → Q b { s with heap := g }) →
  wpAny (model X.prog X.w) (X.A.mark (some (.ref a))) (eval T X.env) (fun c t => wpAny (model X.prog X.w) A (excMatches (.ref a) c) Q E2 t) E1 s
theorem test_two {X : Cx} {x1 x2 : Str} {c1 c2 : Value} {p1 p2 tp : Pos} {k : Nat} (g1 : Gl X x1) (g2 : Gl X x2) (m1 : X.mg x1 = some c1) (m2 : X.mg x2 = some c2) (d1 : (x1 == ("__debug__" : Str)) = false := by decide) (d2 : (x2 == ("__debug__" : Str)) = false := by decide) :
    TestOk X (.Tuple [.Name x1 p1, .Name x2 p2] k tp) fun cls => PySem.W.exmAny X.K cls [c1, c2] := by
  intro a pn pins σ H s cls b A Q E1 E2 I LT e q
  have up : ∀ c o, s.heap.get? c = some o → (s.heap.push { cls := .type "tuple", data := .seq [c1, c2].toArray }).get? c = some o := fun c o z => Heap.get?_push_of_some _ z
  refine wpAny_Tuple (wpAny_items_cons (ld_glob (X := X.suite a pn) I g1 m1 (wpAny_items_cons (ld_glob (X := X.suite a pn) I g2 m2 (wpAny_items_nil ⟨by size_fits, ?_⟩) d2)) d1))
  exact (PySem.W.exm_tup2 (I.kIn.keeps up) (LT.keeps up) (Heap.get?_push_size s.heap rfl) e).here (q _ up)
/-- what is let out of the body is met by the clause -/
def wHit (m : Value → Option Bool) (i : Nat) (ts : Addr → Value → Option Addr → TS) (D : Ends) : WX := fun cls d σ H =>
  m cls = some true ∧ ∀ a, H a = none → ts a cls d { nx := fun σ' H' => D.nx (σ'.set i none) H', rt := D.rt, bk := fun σ' H' => D.bk (σ'.set i none) H', ct := fun σ' H' => D.ct (σ'.set i none) H' } (σ.set i (some (.ref a))) H
section
variable {X : Cx} {n : Str} {i : Nat} {body suite : List Stmt} {b₀ : Stmt} {T : Expr} {pos pos' : Pos} {tb : WX → TS} {ts : Addr → Value → Option Addr → TS} {m : Value → Option Bool}
theorem ps_try_hit (hs : X.stack = X.env :: X.outer) (hf : X.env.frame = some X.env.locals) (hN : X.N.Nodup) (hi : X.N[i]? = some n) (hln : X.env.kindOf n = some .local) (test : TestOk X T m)
    (hb : ∀ (W : WX) (pn : List (Addr × Obj)) (xe : Value → Shared → Prop), L2N.Takes (X.tr pn xe) W → PassesOwn (model X.prog X.w) X.A X.env xe → PSs (X.tr pn xe) body (tb W))
    (hsu : ∀ (a : Addr) (oe : Obj) (cls : Value) (d : Option Addr) (pn : List (Addr × Obj)), L2N.Zn cls d oe → (∃ vs, oe.data = .fields vs) → PSs (X.suite a ((a, oe) :: pn)) (b₀ :: suite) (ts a cls d)) :
    PS X (.Try body [.ExceptHandler (some T) (some n) (b₀ :: suite) pos'] [] [] pos) (fun D σ H => tb (wHit m i ts D) D σ H) := by
  refine ⟨fun pins s σ H D I h => ?_⟩
  have ok := I.ok
  have fr : X.A.frames = some (X.env :: X.outer) := by rw [ok.frames, hs]
  let catch_ : Value → Shared → Prop := fun e t => wpAny (model X.prog X.w) X.A (noteFrame e X.env) (fun _ t2 => wpAny (model X.prog X.w) X.A (setFlight e none) (fun _ t3 => wpAny (model X.prog X.w) X.A (handleBy e X.env [.ExceptHandler (some T) (some n) (b₀ :: suite) pos']) (SP X pins D) X.xe t3) X.xe t2) X.xe t
  have caught : L2N.Takes (X.tr (X.pn ++ pins) catch_) (wHit m i ts D) := by
    rintro u t ⟨a, B, sI, pins', σ', H', cls, d, rfl, J', nb, up, sky, na, os, ag, met, hyes⟩
    have J : L2.Inv X pins σ' H' sI := J'.ofTry ok
    have sky : Sky B (X.env :: X.outer) a (L2N.Zn cls d) X.env.locals t.heap := by
      rw [← hs]
      exact sky
    refine L2N.Sky.land (A := X.A) L2N.Zn.steady fr hf sky fun h3 fl3 up3 => ?_
    have J3 : L2.Inv X pins σ' H' { t with heap := h3 } := J.landed nb fl3.1 (up.trans up3) os ag
    obtain ⟨oe3, vs3, he3, hz3, hd3⟩ := fl3.there
    have off : ∀ {g : Heap}, HandSPX.FlyingZ B (X.env :: X.outer) a (L2N.Zn cls d) g → a ∉ frs (X.env :: X.outer) := fun {g} fl mem => by
      obtain ⟨o1, v1, e1, _, q1⟩ := fl.there
      obtain ⟨_, o2, e2, no⟩ := fl.2.2.1.mem mem
      rw [e1] at e2
      cases e2
      exact no _ q1
    have out := off fl3
    have nL : a ≠ X.env.locals := fun z => out (List.mem_filterMap.mpr ⟨X.env, List.mem_cons_self, by rw [hf, z]⟩)
    have nF : a ∉ X.fs := fun mem => by
      obtain ⟨e, he, q⟩ := List.mem_filterMap.mp mem
      exact out (List.mem_filterMap.mpr ⟨e, List.mem_cons_of_mem _ he, q⟩)
    have S3 := J3.suite he3 hd3 na nL nF
    refine wpAny_handleBy_cons (codeAny_handlers_test ?_) (fun q => by cases q)
    have LT : PySem.W.Looks (model X.prog X.w) h3 (typeOf (.ref a)) cls := fun A Q E s k q => wpAny_typeOf_ref (k _ _ he3) (by rw [hz3.1]; exact q)
    refine test (s := { t with heap := h3 }) S3 LT met fun g kg => ?_
    have flg := flying_kept fl3 kg
    show codeAny _ _ _ _ _
    refine codeAny_handlers_suite_as (HandSPX.lands_againZ (s := { t with heap := g }) flg fun h4 fl4 up4 => ?_)
    have J4 : L2.Inv X pins σ' H' { t with heap := h4 } := J.landed nb fl4.1 (((up.trans up3).trans (Heap.UpToSlots.of_keeps kg)).trans up4) os ag
    obtain ⟨oe4, vs4, he4, hz4, hd4⟩ := fl4.there
    have S4 := J4.suite he4 hd4 na nL nF
    refine store_ok (X := X.suite a ((a, oe4) :: (X.pn ++ pins))) (v := .ref a) S4 hN hi (.inl hln) rfl (fun s5 S5 => ?_) (.inr hln)
    refine wpAny_mono ((hsu a oe4 cls d (X.pn ++ pins) hz4 ⟨_, hd4⟩).run [] s5 _ H' _ S5 (hyes a na)) (fun f s6 hsp => ?_) (fun _ _ z => False.elim z)
    have gone : ∀ {σ6 : L2.St} {H6 : Hp} {Q : Shared → Prop}, L2.Inv (X.suite a ((a, oe4) :: (X.pn ++ pins))) [] σ6 H6 s6 → (∀ s7, L2.Inv X pins (σ6.set i none) H6 s7 → Q s7) →
        wpAny (model X.prog X.w) X.A (do bindName X.env n .none; unbindBehindTheSuite X.env n pos') (fun _ s7 => Q s7) X.xe s6 := fun {σ6 H6 Q} S6 hq => gone_ok (S6.unsuite ok) hN hi hln hq
    cases f with
    | ret u =>
      obtain ⟨v6, σ6, H6, S6, r6, q6⟩ := hsp
      exact gone S6 fun s7 J7 => ⟨_, _, _, J7, r6, q6⟩
    | next =>
      obtain ⟨σ6, H6, S6, q6⟩ := hsp
      exact gone S6 fun s7 J7 => ⟨_, _, J7, q6⟩
    | brk =>
      obtain ⟨σ6, H6, S6, q6⟩ := hsp
      exact gone S6 fun s7 J7 => ⟨_, _, J7, q6⟩
    | cont =>
      obtain ⟨σ6, H6, S6, q6⟩ := hsp
      exact gone S6 fun s7 J7 => ⟨_, _, J7, q6⟩
  refine wpAny_Try_except (wpAny_mono ((hb (wHit m i ts D) (X.pn ++ pins) catch_ caught PassesOwn.looking).run [] s σ H D (I.toTry _) h) (fun f s1 hsp => ?_) (fun e s1 he => he))
  cases f with
  | ret u =>
    obtain ⟨v, σ', H', J', r, q⟩ := hsp
    exact ⟨v, σ', H', J'.ofTry ok, r, q⟩
  | next =>
    obtain ⟨σ', H', J', q⟩ := hsp
    exact wpAny_execs_nil ⟨σ', H', J'.ofTry ok, q⟩
  | brk =>
    obtain ⟨σ', H', J', q⟩ := hsp
    exact ⟨σ', H', J'.ofTry ok, q⟩
  | cont =>
    obtain ⟨σ', H', J', q⟩ := hsp
    exact ⟨σ', H', J'.ofTry ok, q⟩
end
end JgH
namespace JgH
open PySem PySem.W PySem.Spec PyProof.Rows HotX L2 L2H JgX
/-! ### raising, the context kept in mind -/
section
variable {P : Program} {w : World} {K : PySem.W.Frag} {mg : Str → Option Value} {base : Heap}
theorem okN {x qual : Str} {st : Stmt} {f : Addr} {fd : FuncData} {N ps : List Str} {k : Nat} {sp : Sp} (F : Fun K x qual st f fd) (S : FnScope N ps (defScope st)) (len : ∀ vs H Q E, sp vs H Q E → vs.length = ps.length)
    (body : ∀ (cdv : Value) (A : Around) (outer : List Env) (s : Shared) (H : Hp) (vs : List V) (Q : VK) (E : XK), Room k (A.deeper (envOfC qual (defScope st) s.heap.objs.size f cdv)) → sp vs H Q E →
      ∃ t, PSs (cxOf (L2N.CX P w) P w K mg base N qual (defScope st) f cdv A outer s H E) (defBody st) t ∧ t { nx := fun _ H' => Q .non H', rt := Q } (L2.start N vs) H) : FnOk P w K mg base (L2N.CX P w) (k + 1) f fd ps sp := by
  obtain ⟨oc, od, kV, doc, pm, an, cdv, ct, osl, rfl, lk, hcd⟩ := F.ex
  exact fn_of lk hcd S len fun A outer s H vs Q E hr want => body cdv A outer s H vs Q E hr want
end
theorem passN {X : Cx} : Passes (L2N.CX X.prog X.w) X E0 := fun _ _ _ _ _ _ _ h => by
  obtain ⟨_, _, _, _, _, _, _, _, _, _, _, _, z⟩ := h
  exact z.elim
section
variable {X : Cx} {x : Str} {C fI : Addr} {k : Nat} {fd : FuncData} {ps : List Str} {sp : Sp} {e : Expr} {es : List Expr} {ta : TA} {p pos : Pos} {B newId i : String} {bmB : List Value}
theorem mk_xN (MK : Maker newId bmB) (T : XC X.K C B newId i bmB) (iC : findIn X.K (.ref C) "__init__" = some (some (.ref fI))) (tI : typeIn X.K (.ref fI) = some (.type "function"))
    (F1 : FnOk X.prog X.w X.K X.mg X.base CX0 k fI fd ps sp) (room : Room (k + 1) X.A) (hb : Binds X.K fd ps []) (hg : Gl X x) (hm : X.mg x = some (.ref C)) (ha : PA X (e :: es) ta)
    (hdb : (x == ("__debug__" : Str)) = false := by decide) (hs : starEach (e :: es) X.env = (false, eval e X.env) :: starEach es X.env := by rfl) (hpl : (backTo pos (starEach es X.env)).any (·.1) = false := by rfl) :
    L2N.PMk X (.Call (.Name x p) (e :: es) [] pos) (tMkO C sp [] ta) := by
  intro pins s σ H Q I h
  obtain ⟨nm, q, N, bs, bm, sn, sub, ab, col, dd, k0, k1, k2, k3, k5, hC, htail⟩ := T.cls
  refine wpAny_Call_Name_kw (ld_glob I hg hm ?_ hdb)
  refine PySem.W.callWith_K (h₀ := X.base) I.ok.mod.kin T.kC (thn (ha.run pos pins s σ H _ I h) ?_) hs hpl
  rintro us s1 ⟨vs, H1, I1, rel, hz, q1⟩
  refine ⟨I1.kIn, ?_⟩
  show wpAny _ _ (call (.ref C) us) _ _ _
  obtain ⟨hp, g, dr, tk, os⟩ := s1
  have up : ∀ b o, hp.get? b = some o → ((hp.push (PySem.W.kdv_tup us)).push (PySem.HandSPX.excO C hp.objs.size)).get? b = some o := fun b o e =>
    Heap.get?_push_of_some _ (Heap.get?_push_of_some _ e)
  have fresh : H1 (hp.objs.size + 1) = none := I1.hok.fresh (Nat.le_succ _)
  have there : ((hp.push (PySem.W.kdv_tup us)).push (PySem.HandSPX.excO C hp.objs.size)).get? (hp.objs.size + 1) = some (PySem.HandSPX.excO C hp.objs.size) := by heap_get
  have I2 : L2.Inv X pins σ (upd H1 (hp.objs.size + 1) (exo (hp.objs.size + 1) C none)) ⟨(hp.push (PySem.W.kdv_tup us)).push (PySem.HandSPX.excO C hp.objs.size), g, dr, tk, os⟩ :=
    I1.laid (t' := tk) up (Nat.le_succ _) (exo_ok there)
  have want := q1 (hp.objs.size + 1) fresh
  rw [List.append_nil] at want
  have r2 : Vals (V.ref (hp.objs.size + 1) :: vs) (Value.ref (hp.objs.size + 1) :: us) := .cons rfl rel
  have len : (Value.ref (hp.objs.size + 1) :: us ++ []).length = ps.length := by
    rw [List.append_nil, ← r2.length]
    exact F1.len _ _ _ _ want
  have few : us.length ≤ sizeLine := by
    rw [← Paired.length rel, sizeLine_eq]
    omega
  have b2 := hb _ (Value.ref (hp.objs.size + 1) :: us) I2.kIn len
  rw [List.append_nil] at b2
  obtain ⟨MM, iM, bmM, FM, up0⟩ := MK.ex
  refine wpAny_call (up_call FM (up_tail htail up0) (I1.kIn _ _ hC) few (PySem.W.looks_findIn I1.kIn iC) (fun self => PySem.W.bind_fn I1.kIn self tI) ?_)
  refine codeAny_mono (F1.run _ X.stack _ _ ⟨Value.ref (hp.objs.size + 1) :: us, []⟩ _ _ _ (fun _ _ _ => False) (room.make C us []) (I2.env0.make C us []) b2 r2 want) ?_
  intro r s' hq
  cases r with
  | error er => exact False.elim hq
  | ok fl =>
    cases fl with
    | ret u =>
      obtain ⟨v, H2, os2, bare2, un2, hok2, rv, ev, d, fs, ea, ed, hd1, q2⟩ := hq
      subst ev
      obtain ⟨h2, g2, d2, t2, os'⟩ := s'
      obtain ⟨t0, G, J, kG, ge, hoe, na⟩ := mk_end0 (d2 := d2) (t2 := t2) I1 (Nat.le_succ _) up un2 hok2 os2 bare2 ea ed hd1
      exact ⟨rv, hp.objs.size + 1, _, _, ⟨G, g2, d2, t2, os'⟩, _, .ref C, some d, rfl, J, kG, ge, hoe, ⟨rfl, rfl, fun vs hv => by (cases hv; rfl)⟩, rfl, rfl, na, rfl, bare2, raises_own T.exC T.tyC, q2⟩
    | next => exact False.elim hq
    | brk => exact False.elim hq
    | cont => exact False.elim hq
end
/-! ### the handled exception itself -/
def rIsiP (K : PySem.W.Frag) (pn : Addr × Obj) : List V → Hp → VK → Prop := fun xs H Q => ∃ (C dx : Addr) (c : V) (u : Value) (b : Bool) (fs : List (Str × V)), xs = [.ref pn.1, c] ∧ ClsV c u ∧ pn.2.cls = .ref C ∧ pn.2.dict = some dx ∧ H dx = some (.xd fs) ∧ XA K C ∧ kitOne K (.ref C) u = some b ∧ Q (.bl b) H
theorem call_isiP {X : Cx} {K : PySem.W.Frag} {pn : Addr × Obj} (hp : pn ∈ X.pn) (hd : ∃ vs, pn.2.data = .fields vs) (hK : X.K = K := by rfl) : CallR X (.builtin "isinstance") (rIsiP K pn) := by
  subst hK
  intro pins s σ H xs us Q I r h
  obtain ⟨C, dx, c, u, b, fs, rfl, k, hc, hdx, ed, T, e, q⟩ := h
  obtain ⟨u1, u2, rfl, r1, r2⟩ := vals2 r
  have e2 := k.eq r2
  subst e2
  cases (show u1 = Value.ref pn.1 from r1)
  have ho := (I.pin pn (List.mem_append_left _ hp)).1
  have hx : ObjOk X.prog X.w H s.heap dx (.xd fs) := I.hok dx _ ed
  obtain ⟨mA, hns, _⟩ := hx
  obtain ⟨od, hod, _⟩ := lookIn_ns hns
  obtain ⟨vs, hv⟩ := hd
  have J : PySem.W.InstAt s.heap pn.1 pn.2 C (some od) := ⟨ho, hc, by unfold PySem.W.notCls; rw [hv] <;> rfl, by rw [hdx]; exact hod⟩
  exact kia_one (kitx_exc T.cl T.f.ga T.f.gg T.f.exC T.ha T.hn T.tk T.hm) I.kIn J e (fun z => nomatch z) fun tk => ⟨.bl b, H, I.tok tk, rfl, q⟩
/-! ### [x for x, b in zip(xs, bs) if b] -/
def pick : List V → List Bool → List V
  | x :: xs, b :: bs => if b = true then x :: pick xs bs else pick xs bs
  | _, _ => []
theorem pick_take : ∀ (xs : List V) (bs : List Bool) (i : Nat) (x : V) (b : Bool), xs[i]? = some x → bs[i]? = some b → pick (xs.take (i + 1)) (bs.take (i + 1)) = pick (xs.take i) (bs.take i) ++ (if b = true then [x] else [])
  | [], _, i, x, b, h, _ => by simp at h
  | _ :: _, [], i, x, b, _, h => by simp at h
  | y :: xs, c :: bs, 0, x, b, h1, h2 => by
    simp at h1 h2
    subst h1
    subst h2
    cases c <;> simp [pick]
  | y :: xs, c :: bs, i + 1, x, b, h1, h2 => by
    have ih := pick_take xs bs i x b (by simpa using h1) (by simpa using h2)
    rw [List.take_succ_cons, List.take_succ_cons, List.take_succ_cons, List.take_succ_cons]
    cases c
    · simpa [pick] using ih
    · simpa [pick] using ih
theorem pick_len (xs : List V) (bs : List Bool) : (pick xs bs).length ≤ xs.length := by
  induction xs generalizing bs with
  | nil => cases bs <;> simp [pick]
  | cons x xs ih =>
    cases bs with
    | nil => simp [pick]
    | cons b bs =>
      have := ih bs
      cases b <;> simp [pick] <;> omega
theorem zip_sel {K : PySem.W.Frag} {σ : L2.St} {H1 : Hp} {Q : VK} {tt : TT} {te : TE} {a b : Addr} {xs : List V} {bs : List Bool} {iw ih : Nat}
    (hw : ∀ x y, wipe (((wipe σ [iw, ih]).set iw (some x)).set ih (some y)) [iw, ih] = wipe σ [iw, ih]) (htt : ∀ x b H B, B b H → tt (((wipe σ [iw, ih]).set iw (some x)).set ih (some (.bl b))) H B) (hte : ∀ x y H (R : VK), R x H → te (((wipe σ [iw, ih]).set iw (some x)).set ih (some y)) H R)
    (h1 : SqL K H1 a xs) (h2 : SqL K H1 b (bs.map V.bl)) (len : xs.length = bs.length) (sz : xs.length < sizeLine) (q : ∀ D H', H1 D = none → L2.Same H1 H' → H' D = some (.lst (pick xs bs)) → Q (.ref D) H') :
    zipIn K (gCons (gName iw) (gCons (gName ih) gNil)) tt te [iw, ih] σ Q [.ref a, .ref b] H1 := by
  refine ⟨a, b, xs, bs.map V.bl, rfl, h1, h2, by simpa using len, fun D hD => ⟨fun i H' => L2.Same H1 H' ∧ H' D = some (.lst (pick (xs.take i) (bs.take i))), ⟨fun c o e => Jg.upd_keep hD e, by simp [pick, upd_same]⟩, ?_, ?_, ?_⟩⟩
  · rintro i H' ⟨s, _⟩
    exact ⟨s.seq h1, s.seq h2⟩
  · rintro H' ⟨s, e⟩
    rw [List.take_length, len, List.take_length] at e
    exact q D H' hD s e
  · rintro i x y H' T ⟨s, e⟩ ex ey hT
    obtain ⟨c, ec, rfl⟩ : ∃ c, bs[i]? = some c ∧ V.bl c = y := by
      rw [List.getElem?_map] at ey
      cases hc : bs[i]? with
      | none => rw [hc] at ey; cases ey
      | some c => rw [hc] at ey; exact ⟨c, rfl, by simpa using ey⟩
    refine ⟨_, _, rfl, _, _, rfl, rfl, hw _ _, htt _ _ _ _ ?_⟩
    have eD : upd H' T (.tup [x, V.bl c]) D = some (.lst (pick (xs.take i) (bs.take i))) := Jg.upd_keep hT e
    have sT : L2.Same H1 (upd H' T (.tup [x, V.bl c])) := fun k o z => Jg.upd_keep hT (s k o z)
    cases c with
    | false =>
      refine ⟨sT, ?_⟩
      rw [eD, pick_take xs bs i x false ex ec]
      simp
    | true =>
      refine hte _ _ _ _ ⟨_, eD, ?_, fun k o z => ?_, ?_⟩
      · exact Nat.lt_of_le_of_lt (Nat.le_trans (pick_len _ _) (List.length_take_le _ _)) (Nat.lt_of_le_of_lt (by exact Nat.le_of_lt (List.getElem?_eq_some_iff.mp ex).1) sz)
      · rw [upd_ne (ne_of_none z hD)]
        exact sT k o z
      · rw [upd_same, pick_take xs bs i x true ex ec]
        rfl
/-! ### e.f of the handled exception, of whatever class of the program -/
def tXfA (K : PySem.W.Frag) (a : Addr) (cls : Value) (dd : Option Addr) (f : Str) (te : TE) : TE := fun σ H Q => te σ H fun x H1 => ∃ (C dx : Addr) (fs : List (Str × V)) (v : V), x = .ref a ∧ cls = .ref C ∧ dd = some dx ∧ H1 dx = some (.xd fs) ∧ XfC K C ∧ findIn K (.ref C) f = some none ∧ fs.lookup f = some v ∧ Q v H1
theorem pe_xfA {X : Cx} {K : PySem.W.Frag} {a : Addr} {oe : Obj} {cls : Value} {dd : Option Addr} {e : Expr} {te : TE} {pos : Pos} {n : Str} (hp : (a, oe) ∈ X.pn) (h1 : oe.cls = cls) (h2 : oe.dict = dd) (hd : ∃ vs, oe.data = .fields vs) (he : PE X e te)
    (hb : attributeBase e n X.env (eval e X.env) = eval e X.env := by rfl) (hK : X.K = K := by rfl) : PE X (.Attribute e n pos) (tXfA K a cls dd n te) := by
  subst hK
  refine ⟨fun pins s σ H Q I h => ?_⟩
  refine attr_of hb (thn (he.run pins s σ H _ I h) fun u s1 hh => ?_)
  obtain ⟨x, H1, I1, rx, C, dx, fs, v, rfl, rfl, rfl, ed, T, hno, l, q⟩ := hh
  obtain rfl : u = Value.ref a := rx
  have ho := (I1.pin (a, oe) (List.mem_append_left _ hp)).1
  have hx : ObjOk X.prog X.w H1 s1.heap dx (.xd fs) := I1.hok dx _ ed
  obtain ⟨mA, hns, rel⟩ := hx
  obtain ⟨od, hod, hl⟩ := lookIn_ns hns
  obtain ⟨vs, hv⟩ := hd
  have J : PySem.W.InstAt s1.heap a oe C (some od) := ⟨ho, h1, by unfold PySem.W.notCls; rw [hv] <;> rfl, by rw [h2]; exact hod⟩
  obtain ⟨w, hw, rw2⟩ := RelO.some_of (v := v) (o := mA n) (by rw [← l]; exact rel n)
  exact HandSPX.exc_get I1.kIn J T.ga T.gg T.exC (findObj_own T.hdC hno rfl (by rw [hl, hw])) (handed_of rw2) ⟨v, H1, I1.tok _, rw2, q⟩
theorem hot_suite {X : Cx} {a : Addr} {oe : Obj} {cls : Value} {dd : Option Addr} {pn : List (Addr × Obj)} (hz : L2N.Zn cls dd oe) (hf : ∃ vs, oe.data = .fields vs) : Hot1 (X.suite a ((a, oe) :: pn)).A (a, oe) := by
  obtain ⟨vs, hv⟩ := hf
  exact ⟨rfl, vs, hv, hz.2.2 vs hv⟩
theorem room_suite {k j : Nat} {A : Around} (r : Room k A) (h : Option Value) (l : j ≤ k) : RoomH j (A.mark h) := RoomH.mono (j := j) (k := k) ⟨r.dp, r.un⟩ l
theorem op_eqDK {X : Cx} {K : PySem.W.Frag} (hu : X.A.units + 64 < cLine) (hK : X.K = K := by rfl) : OpR X (compareOp .Eq) (rEqD K) := by
  subst hK
  exact op_eqD hu
theorem g_callS {sp : Sp} {E : L2.St → XK} {t : TA} {σ : L2.St} {H : Hp} {Q : VK} (q : t σ H fun vs H1 => sp vs H1 Q (E σ)) : tCallS sp E t σ H Q := q
theorem g_xfA {K : PySem.W.Frag} {a : Addr} {cls : Value} {dd : Option Addr} {n : Str} {te : TE} {σ : L2.St} {H : Hp} {Q : VK} (q : te σ H fun x H1 => ∃ (C dx : Addr) (fs : List (Str × V)) (v : V), x = .ref a ∧ cls = .ref C ∧ dd = some dx ∧ H1 dx = some (.xd fs) ∧ XfC K C ∧ findIn K (.ref C) n = some none ∧ fs.lookup n = some v ∧ Q v H1) : tXfA K a cls dd n te σ H Q := q
theorem exm_two {K : PySem.W.Frag} {t c1 c2 : Addr} {d1 d2 : ClassData} {b1 b2 : Bool} (e1 : subIn K (.ref c1) (.type "BaseException") = some true) (k1 : clsIn K c1 = some d1) (y1 : typeIn K (.ref c1) = some (.type "type")) (s1 : subIn K (.ref t) (.ref c1) = some b1)
    (e2 : subIn K (.ref c2) (.type "BaseException") = some true) (k2 : clsIn K c2 = some d2) (y2 : typeIn K (.ref c2) = some (.type "type")) (s2 : subIn K (.ref t) (.ref c2) = some b2) : exmAny K (.ref t) [.ref c1, .ref c2] = some (b1 || b2) := by
  have one : ∀ {c : Addr} {d : ClassData} {b : Bool}, subIn K (.ref c) (.type "BaseException") = some true → clsIn K c = some d → typeIn K (.ref c) = some (.type "type") → subIn K (.ref t) (.ref c) = some b → exmOne K (.ref t) (.ref c) = some b := fun {c d b} e k y s => by
    unfold exmOne kitCls
    simp only [e, k, y, s]
    rfl
  unfold exmAny exmAny exmAny
  rw [one e1 k1 y1 s1, one e2 k2 y2 s2]
  simp
/-- C(v) in a raise, C without an __init__ of its own -/
theorem mk_plain {X : Cx} {x : Str} {C : Addr} {e : Expr} {te : TE} {p pos : Pos} {B newId i : String} {bmB : List Value} (MK : Maker newId bmB) (F : IniFacts B i) (hB : bmB.contains (.type B) = true) (sp : splitId i = some (B, "__init__")) (T : Plain X.K C B newId i bmB) (ra : L2.Raises X (.ref C))
    (hg : Gl X x) (hm : X.mg x = some (.ref C)) (he : PE X e te)
    (hdb : (x == ("__debug__" : Str)) = false := by decide) (hs : starEach [e] X.env = (false, eval e X.env) :: starEach [] X.env := by rfl) (hpl : (backTo pos (starEach [] X.env)).any (·.1) = false := by rfl) :
    L2N.PMk X (.Call (.Name x p) [e] [] pos) (fun σ H Q => te σ H fun y H1 => tNil σ H1 fun ys H2 => ∃ y2, y :: ys = [y2] ∧ Q (.ref C) none H2) := by
  intro pins s σ H Q I h
  obtain ⟨nm, q, N, bs, bm, sn, sub, ab, col, dd, k0, k1, k2, k3, k5, hC, htail⟩ := T.cls
  obtain ⟨MM, iM, bmM, FM, up0⟩ := MK.ex
  have args : PA X [e] (tCons te tNil) := pa_cons he pa_nil hs
  refine wpAny_Call_Name_kw (ld_glob I hg hm ?_ hdb)
  refine PySem.W.callWith_K (h₀ := X.base) I.ok.mod.kin T.kC (thn (args.run pos pins s σ H (fun vs H1 => ∃ y, vs = [y] ∧ Q (.ref C) none H1) I h) ?_) hs hpl
  rintro us s1 ⟨vs, H1, I1, rel, y, rfl, q1⟩
  refine ⟨I1.kIn, ?_⟩
  show wpAny _ _ (call (.ref C) us) _ _ _
  obtain ⟨u, rfl, ru⟩ := vals1 rel
  obtain ⟨hp, g, dr, tk, os⟩ := s1
  have one : [u].length ≤ sizeLine := by rw [sizeLine_eq]; simp
  have up : ∀ b o, hp.get? b = some o → ((hp.push (PySem.W.kdv_tup [u])).push (PySem.HandSPX.excO C hp.objs.size)).get? b = some o := fun b o e =>
    Heap.get?_push_of_some _ (Heap.get?_push_of_some _ e)
  have there : ((hp.push (PySem.W.kdv_tup [u])).push (PySem.HandSPX.excO C hp.objs.size)).get? (hp.objs.size + 1) = some (PySem.HandSPX.excO C hp.objs.size) := by heap_get
  have lk := I1.kIn _ _ hC
  have inB : bm.contains (.type B) = true := (tail_contains htail B).trans hB
  refine wpAny_call (up_call (fv := .builtin i) FM (up_tail htail up0) lk one (PySem.W.looks_findIn I1.kIn T.ini) (fun self => Looks.of_pure (F.slot.bind self)) ?_)
  refine up_init F inB sp (up _ _ lk) there one fun h2 t1 k2 e2 _ _ => ?_
  have fresh : H1 (hp.objs.size + 1) = none := I1.hok.fresh (Nat.le_succ _)
  have keep : ∀ b o, hp.get? b = some o → h2.get? b = some o := fun b o e => k2 b o (Nat.ne_of_lt (Nat.lt_succ_of_lt (Heap.lt_size e))) (up b o e)
  have gone : hp.get? (hp.objs.size + 1) = none := by
    cases e9 : hp.get? (hp.objs.size + 1) with
    | none => rfl
    | some o => exact (Nat.lt_irrefl _ (Nat.lt_of_succ_lt (Heap.lt_size e9))).elim
  exact ⟨rfl, hp.objs.size + 1, _, _, ⟨hp, g, dr, tk, os⟩, H1, .ref C, none, rfl, I1, keep, gone, e2, ⟨rfl, rfl, fun vs hv => by (cases hv; rfl)⟩, rfl, rfl, fresh, rfl, I1.bare, ra, q1⟩
end JgH
namespace JgX
open PySem PySem.W PySem.Calls PyProof.Rows PySem.Spec L2
/-! ### many classes of exceptions: who is under whom, by one table -/
section
variable {K : Frag} {C D : Addr} {bm : List Value}
/-- the written part has a class at C, and these stand above it -/
structure Cl (K : Frag) (C : Addr) (bm : List Value) : Prop where
  ex : ∃ cd, clsIn K C = some cd ∧ cd.mro = .ref C :: bm
  ty : typeIn K (.ref C) = some (.type "type")
theorem cl_mk {nm q : Str} {N : Addr} {bs sub : List Value} {hd ab : Bool} {sn : List Str} {col : Option Bool} {dd : Option Addr} {k0 k1 k2 k3 k5 : Option Value} {newId : String}
    (l : K.lookup C = some (excClassObj nm q C N bs bm hd sn sub ab col dd k0 k1 k2 k3 k5 newId)) (t : typeIn K (.ref C) = some (.type "type")) : Cl K C bm :=
  ⟨⟨_, by unfold clsIn; rw [l], rfl⟩, t⟩
theorem Cl.sub (h : Cl K C bm) (v : Value) : subIn K (.ref C) v = some ((Value.ref C :: bm).contains v) := by
  obtain ⟨cd, e, m⟩ := h.ex
  show mroIn K C v = _
  unfold mroIn
  rw [e]
  show (if cd.mro.isEmpty then none else some (cd.mro.contains v)) = _
  rw [m]
  rfl
theorem Cl.ref {bm' : List Value} (h : Cl K C bm) (g : Cl K D bm') : kitOne K (.ref C) (.ref D) = some ((Value.ref C :: bm).contains (.ref D)) := by
  unfold kitOne
  by_cases e : (Value.ref C == Value.ref D) = true
  · rw [if_pos e]
    have e' : Value.ref C = .ref D := beq_iff_eq.mp e
    rw [← e', List.contains_cons, beq_self_eq_true, Bool.true_or]
  · rw [if_neg e]
    obtain ⟨cd, x, m⟩ := g.ex
    show (if ((clsIn K D).isSome && typeIn K (.ref D) == some (.type "type")) = true then subIn K (.ref C) (.ref D) else none) = _
    rw [x, g.ty, if_pos (by rfl), h.sub]
theorem Cl.type (h : Cl K C bm) {T : String} (t : kitMeta T = true) : kitOne K (.ref C) (.type T) = some ((Value.ref C :: bm).contains (.type T)) := by
  unfold kitOne
  rw [if_neg (by simp)]
  show (if kitMeta T = true then subIn K (.ref C) (.type T) else none) = _
  rw [if_pos t, h.sub]
end
/-- rows of classes, each with what stands above it; the last ones are the families, and fam tells whose is whose -/
theorem kin_at {fam : Nat → Nat} {rows : List (Addr × List Value)} (h : kinTab fam rows = true) {i j : Nat} {C D : Addr} {bm bm' : List Value} (a : rows[i]? = some (C, bm)) (b : rows[j]? = some (D, bm')) :
    (Value.ref C :: bm).contains (.ref D) = (decide (i = j) || decide (fam i = j)) := by
  unfold kinTab at h
  rw [List.all_eq_true] at h
  have ha : ((C, bm), i) ∈ rows.zipIdx := by
    rw [List.mem_zipIdx_iff_getElem?]
    exact a
  have hb : ((D, bm'), j) ∈ rows.zipIdx := by
    rw [List.mem_zipIdx_iff_getElem?]
    exact b
  have h1 := h _ ha
  rw [List.all_eq_true] at h1
  exact beq_iff_eq.mp (h1 _ hb)
/-- all rows are classes of the written part -/
def Cls (K : Frag) (rows : List (Addr × List Value)) : Prop := ∀ (i : Nat) (C : Addr) (bm : List Value), rows[i]? = some (C, bm) → Cl K C bm
theorem cls_nil {K : Frag} : Cls K [] := fun i C bm h => by cases h
theorem cls_cons {K : Frag} {C : Addr} {bm : List Value} {rows : List (Addr × List Value)} (h : Cl K C bm) (t : Cls K rows) : Cls K ((C, bm) :: rows) := fun i D bm' e => by
  cases i with
  | zero =>
    cases e
    exact h
  | succ i => exact t i D bm' e
theorem cls_kit {K : Frag} {fam : Nat → Nat} {rows : List (Addr × List Value)} (c : Cls K rows) (h : kinTab fam rows = true) {i j : Nat} {C D : Addr} {bm bm' : List Value} (a : rows[i]? = some (C, bm)) (b : rows[j]? = some (D, bm')) :
    kitOne K (.ref C) (.ref D) = some (decide (i = j) || decide (fam i = j)) := by
  rw [(c i C bm a).ref (c j D bm' b), kin_at h a b]
/-- the classes of Python that each one stands under -/
theorem cls_ty {K : Frag} {T : String} {under : Nat → Bool} {rows : List (Addr × List Value)} (c : Cls K rows) (t : kitMeta T = true) (h : tyTab T under rows = true) {i : Nat} {C : Addr} {bm : List Value} (a : rows[i]? = some (C, bm)) :
    kitOne K (.ref C) (.type T) = some (under i) := by
  rw [(c i C bm a).type t]
  unfold tyTab at h
  rw [List.all_eq_true] at h
  have ha : ((C, bm), i) ∈ rows.zipIdx := by
    rw [List.mem_zipIdx_iff_getElem?]
    exact a
  exact congrArg some (beq_iff_eq.mp (h _ ha))
/-! ### what is said of one class -/
structure CT (P : Program) (K : Frag) (mg : Str → Option Value) (C I : Addr) (fd : FuncData) (nm qual field : Str) (B newId i : String) (bmB : List Value) (st : Stmt) : Prop where
  x : XC K C B newId i bmB
  y : XFn P K C I fd qual (defArgs st) (defBody st) (defScope st)
  n : findIn K (.ref C) field = some none
  c : mg nm = some (.ref C)
  xa : XA K C
theorem XFn.bindsK {P : Program} {K : Frag} {C fI : Addr} {fd : FuncData} {qual par : Str} {params : Arguments} {body : List Stmt} {scope : Scope} (S : XFn P K C fI fd qual params body scope)
    (h : ∀ (nm : Str) (cc cda : Addr) (kV doc pm ct : Value) (an : Option Addr) (a v : Value), bindArgs (ksFn nm qual params body scope .none kV doc pm an (.ref cda) ct cc) ⟨[a], [(par, v)]⟩ = pure [(("self" : Str), a), (par, v)]) :
    ∀ (s : Shared) (a v : Value), K.In s.heap → BindsTo s fd ⟨[a], [(par, v)]⟩ [(("self" : Str), a), (par, v)] := by
  obtain ⟨nm, cc, cda, oc, kV, doc, pm, ct, ccl, cl, od, an, cdd, cld, osl, ccs, csl, vs, file, tf, rfl, _⟩ := S.ex
  exact fun s a v _ => BindsTo.of_eq (h nm cc cda kV doc pm ct an a v)
/-- an __init__ without a parameter, as it stands in the text -/
structure XSn (st : Stmt) (text : Str) : Prop where
  ex : ∃ (j : Nat) (p0 p1 p2 p3 p4 : Pos), defBody st = [.Expr (.Call (.Attribute (.Call (.Name "super" p0) [] [] p1) "__init__" p2) [.Constant (.str text) j p3] [] p4) p4] ∧
    (∀ en : Env, ∃ pl : Sem Bool, eval (.Call (.Attribute (.Call (.Name "super" p0) [] [] p1) "__init__" p2) [.Constant (.str text) j p3] [] p4) en = (do
      let ov ← attributeBase (.Call (.Name "super" p0) [] [] p1) "__init__" en (eval (.Call (.Name "super" p0) [] [] p1) en)
      standAt p2.atName
      let (f, first) ← holding [ov] (getMethod ov "__init__" pl)
      callWith p4 f first (backTo p4 (starEach [.Constant (.str text) j p3] en)) [])) ∧
    (∀ en : Env, swapsWith (.Call (.Attribute (.Call (.Name "super" p0) [] [] p1) "__init__" p2) [.Constant (.str text) j p3] [] p4) none p4.line en = pure false)
  ks : (defScope st).names.lookup ("super" : Str) = some .globalImplicit
  kc : (defScope st).names.lookup ("__class__" : Str) = some .free
  kself : (defScope st).names.lookup ("self" : Str) = some .local
  kind : (defScope st).kind = .function
  cell : ∀ x ∈ (defScope st).names, x.2 ≠ .cell
  co : (defScope st).isCoroutine = false
  gen : (defScope st).isGenerator = false
  par0 : ∃ ar, ((defArgs st).posonlyargs ++ (defArgs st).args).head? = some ar ∧ ar.arg = ("self" : Str)
theorem no_st {P : Program} {w : World} {K : Frag} {mg : Str → Option Value} {base : Heap} {CX : CXT} {k : Nat} {B newId i : String} {bmB : List Value} {C fI : Addr} {fd : FuncData} {qual text : Str} {st : Stmt} (X : XBase B newId i bmB) (T : XC K C B newId i bmB)
    (S : XFn P K C fI fd qual (defArgs st) (defBody st) (defScope st)) (Z : XSn st text) (opq : nsIn K cStatics "thirdparty.any" = some none) (msup : mg "super" = none)
    (htop : (P.main.scope.names.lookup ("super" : Str)).isSome = false) : FnOk P w K mg base CX (k + 1) fI fd [("self" : Str)] (xNo C) := by
  obtain ⟨j, p0, p1, p2, p3, p4, eb, hev, hsx⟩ := Z.ex
  rw [eb] at S
  exact init_no X T S opq msup htop Z.ks Z.kc Z.kself Z.kind Z.cell Z.co Z.gen Z.par0 hev hsx
/-- v is an exception of the class at C, made and kept -/
def Ex (H : Hp) (v : V) (C : Addr) : Prop := ∃ a, v = .ref a ∧ ((∃ z fs, KxF H a C z fs) ∨ H a = some (exo a C none))
theorem Ex.all {H H' : Hp} {v : V} {C : Addr} (s : All H H') (h : Ex H v C) : Ex H' v C := by
  obtain ⟨a, rfl, ⟨z, fs, h⟩ | h⟩ := h
  · exact ⟨a, rfl, Or.inl ⟨z, fs, h.all s⟩⟩
  · exact ⟨a, rfl, Or.inr (s _ _ h)⟩
theorem g_isi3 {K : Frag} {H : Hp} {v c : V} {u : Value} {C : Addr} {b : Bool} {Q : VK} (e : Ex H v C) (xa : XA K C) (k : ClsV c u) (h : kitOne K (.ref C) u = some b) (q : Q (.bl b) H) : rEith (rEith (rIsi K) (rIsiX K)) (rIsiO K) [v, c] H Q := by
  obtain ⟨a, rfl, ⟨z, fs, x⟩ | x⟩ := e
  · exact Or.inl (Or.inr ⟨a, C, c, u, b, rfl, k, Or.inr ⟨z, x.kx⟩, xa, h, q⟩)
  · exact Or.inr ⟨a, C, c, u, b, rfl, k, x, xa, h, q⟩
/-! ### one class by what the written part says of it -/
section
variable {P : Program} {K : Frag} {mg : Str → Option Value} {C I N cc cda : Addr} {B newId i : String} {bmB bs bm sub : List Value} {nm nmx qual q field : Str} {sn : List Str} {ab : Bool} {col : Option Bool} {dd : Option Addr} {k0 k1 k2 k3 k5 : Option Value}
theorem cl_ty (l : K.lookup C = some (excClassObj nm q C N bs bm true sn sub ab col dd k0 k1 k2 k3 k5 newId)) : typeIn K (.ref C) = some (.type "type") := by
  show (K.lookup C).map (·.cls) = _
  rw [l]
  rfl
theorem cl_tail (l : K.lookup C = some (excClassObj nm q C N bs bm true sn sub ab col dd k0 k1 k2 k3 k5 newId)) (t : excTail bmB bm = true) {T : String} (h : bmB.contains (.type T) = true) : subIn K (.ref C) (.type T) = some true := by
  rw [(cl_mk l (cl_ty l)).sub, List.contains_cons, tail_contains t, h, Bool.or_true]
theorem cl_xa (l : K.lookup C = some (excClassObj nm q C N bs bm true sn sub ab col dd k0 k1 k2 k3 k5 newId)) (t : excTail bmB bm = true) (hX : bmB.contains (.type "BaseException") = true) (hO : bmB.contains (.type "object") = true)
    (ga : findIn K (.ref C) "__getattribute__" = some (some (.builtin "BaseException.__getattribute__"))) (gg : findIn K (.ref C) "__getattr__" = some none)
    (ha : findIn K (.ref C) "__class__" = some (some (.builtin "object.__class__"))) (hn : specialIn K (.builtin "object.__class__") "__get__" = some (some (.builtin "getset_descriptor.__get__"))) (tk : takesIn K (.builtin "object.__class__") = some true) : XA K C := by
  have hc : (clsIn K C).isSome = true := by
    unfold clsIn
    rw [l]
    rfl
  have hd : hasDictIn K C = true := by
    unfold hasDictIn clsIn
    rw [l]
    rfl
  exact ⟨⟨ga, gg, cl_tail l t hX, hd⟩, hc, ha, hn, tk, cl_tail l t hO⟩
theorem ct_mk {st : Stmt} {oc kV doc pm ct ccl cl : Value} {od an cdd cld : Option Addr} {osl ccs csl : Array (Option Value)} {vs : Array Value} {file : Str} {tf : Tok}
    (l : K.lookup C = some (excClassObj nm q C N bs bm true sn sub ab col dd k0 k1 k2 k3 k5 newId)) (t : excTail bmB bm = true) (hX : bmB.contains (.type "BaseException") = true) (hO : bmB.contains (.type "object") = true) (hB : bmB.contains (.type B) = true)
    (ga : findIn K (.ref C) "__getattribute__" = some (some (.builtin "BaseException.__getattribute__"))) (gg : findIn K (.ref C) "__getattr__" = some none)
    (ha : findIn K (.ref C) "__class__" = some (some (.builtin "object.__class__"))) (hn : specialIn K (.builtin "object.__class__") "__get__" = some (some (.builtin "getset_descriptor.__get__"))) (tk : takesIn K (.builtin "object.__class__") = some true)
    (sa : findIn K (.ref C) "__setattr__" = some (some (.builtin "object.__setattr__"))) (kC : keepIn K (.ref C) = true) (su : ks_superIn K C C "__init__" = some (some (.builtin i)))
    (lI : K.lookup I = some ⟨oc, od, .func (ksFn nmx qual (defArgs st) (defBody st) (defScope st) .none kV doc pm an (.ref cda) ct cc), osl⟩) (hcd : codeIn K (.ref cda) qual = true) (lcd : K.lookup cda = some ⟨ccl, cdd, .fields vs, ccs⟩) (hv2 : vs[2]? = some (.str file tf))
    (hfile : ((P.main.file : Str) == file) = true) (lcc : K.lookup cc = some ⟨cl, cld, .cell (some (.ref C)), csl⟩) (iC : findIn K (.ref C) "__init__" = some (some (.ref I))) (tI : typeIn K (.ref I) = some (.type "function"))
    (nf : findIn K (.ref C) field = some none) {cn : Str} (c : mg cn = some (.ref C)) :
    CT P K mg C I (ksFn nmx qual (defArgs st) (defBody st) (defScope st) .none kV doc pm an (.ref cda) ct cc) cn qual field B newId i bmB st :=
  ⟨xc_mk l t sa (cl_tail l t hX) (cl_ty l) kC su (cl_tail l t hB), xfn_mk lI hcd lcd hv2 hfile lcc iC tI, nf, c, cl_xa l t hX hO ga gg ha hn tk⟩
theorem pl_mk (l : K.lookup C = some (excClassObj nm q C N bs bm true sn sub ab col dd k0 k1 k2 k3 k5 newId)) (t : excTail bmB bm = true) (kC : keepIn K (.ref C) = true) (ini : findIn K (.ref C) "__init__" = some (some (.builtin i))) : Plain K C B newId i bmB :=
  ⟨⟨nm, q, N, bs, bm, sn, sub, ab, col, dd, k0, k1, k2, k3, k5, l, t⟩, kC, ini⟩
end
end JgX
namespace JgX
open PySem PySem.W PySem.Calls PyProof.Rows PySem.Spec L2
/-! ### repr of data, and of a list of one or two such -/
def rAny (K : Frag) : List V → Hp → VK → Prop := fun xs H Q =>
  (∃ (x : V) (d : PyData), xs = [x] ∧ Dq K H x d ∧ d.showable = true ∧ d.depth ≤ 20 ∧ d.shown.length ≤ 100000 ∧ Q (.str d.shown) H) ∨
  (∃ (p : Addr) (v1 : V) (t1 : Str), xs = [.ref p] ∧ H p = some (.lst [v1]) ∧ Sw K H v1 t1 ∧ Q (.str (listText [t1])) H) ∨
  ∃ (p : Addr) (v1 v2 : V) (t1 t2 : Str), xs = [.ref p] ∧ H p = some (.lst [v1, v2]) ∧ Sw K H v1 t1 ∧ Sw K H v2 t2 ∧ Q (.str (listText [t1, t2])) H
theorem call_any {X : Cx} {K : Frag} (gua : X.A.guards = some []) (hu : X.A.units + 64 < cLine) (hK : X.K = K := by rfl) : CallR X (.builtin "repr") (rAny K) := by
  subst hK
  intro pins s σ H xs us Q I rel h
  rcases h with ⟨x, d, rfl, hd, sh, dp, sz, q⟩ | ⟨p, v1, t1, rfl, e, s1, q⟩ | ⟨p, v1, v2, t1, t2, rfl, e, s1, s2, q⟩
  · obtain ⟨u, rfl, ru⟩ := vals1 rel
    obtain ⟨as, rd, no⟩ := hd.reads I ru
    replace sz : d.shown.length ≤ sizeLine := Nat.le_trans sz (by decide)
    have leaf : ∀ tk, EP X pins σ Q (.str d.shown tk) { s with toks := s.toks + 1 } := fun tk => ⟨.str d.shown, H, I.tok _, ⟨tk, rfl⟩, q⟩
    cases u with
    | ref a =>
      refine repr_of_reads' rd sh no gua (by omega) (fun b o e => e) ?_ sz
      intro h' u tk keep
      exact ⟨.str d.shown, H, I.kept keep, ⟨u, rfl⟩, q⟩
    | none =>
      cases rd
      simp only [PyData.shown] at leaf sz
      exact PySem.P.repr_of_none (leaf _)
    | bool b =>
      cases rd
      simp only [PyData.shown] at leaf sz
      exact PySem.P.repr_of_bool (leaf _)
    | int i t =>
      cases rd
      simp only [PyData.shown] at leaf sz
      exact PySem.P.repr_of_int (by simpa [PyData.showable] using sh) (leaf _)
    | str z t =>
      cases rd
      simp only [PyData.shown] at leaf sz
      exact PySem.P.repr_of_str (leaf _) sz
    | _ => cases rd
  · obtain ⟨u, rfl, ru⟩ := vals1 rel
    obtain rfl : u = Value.ref p := ru
    obtain ⟨_, its, n, vv, hp⟩ := I.hok p _ e
    cases vv with
    | @cons _ u1 _ _ r1 vv =>
    cases vv
    obtain ⟨b1, n1, k1⟩ := s1.item I hp rfl rfl (i := 0) rfl r1
    have sz : (listText [t1]).length ≤ sizeLine := by
      have a := listText_len_le [t1]
      have l1 := s1.len
      simp at a
      exact Nat.le_trans (show _ ≤ 400000 by omega) (by decide)
    refine call_repr_slot (by omega) ⟨_, hp, rfl⟩ F.slot_list_repr.toG ?_
    refine call_list_reprK (as := b1) (h₀ := s.heap) (d := 20) (ts := [t1]) hp rfl rfl n1 rfl ?_ gua (fun b _ => Clear.nil b) ?_ (fun _ _ y => y) ?_ sz
    · intro i y hy
      match i with
      | 0 => simp at hy; subst hy; exact ⟨t1, rfl, k1⟩
      | i + 1 => simp at hy
    · show X.A.units + 1 + (20 + 1) < cLine
      omega
    · intro h' u tk keep
      exact ⟨_, _, rfl, .str (listText [t1]), H, I.kept keep, ⟨u, rfl⟩, q⟩
  · obtain ⟨u, rfl, ru⟩ := vals1 rel
    obtain rfl : u = Value.ref p := ru
    obtain ⟨_, its, n, vv, hp⟩ := I.hok p _ e
    cases vv with
    | @cons _ u1 _ _ r1 vv =>
    cases vv with
    | @cons _ u2 _ _ r2 vv =>
    cases vv
    obtain ⟨b1, n1, k1⟩ := s1.item I hp rfl rfl (i := 0) rfl r1
    obtain ⟨b2, n2, k2⟩ := s2.item I hp rfl rfl (i := 1) rfl r2
    have sz : (listText [t1, t2]).length ≤ sizeLine := by
      have a := listText_len_le [t1, t2]
      have l1 := s1.len
      have l2 := s2.len
      simp at a
      exact Nat.le_trans (show _ ≤ 400000 by omega) (by decide)
    have sub1 : ∀ b ∈ b1, b ∈ b1 ++ b2 := fun b h => List.mem_append_left _ h
    have sub2 : ∀ b ∈ b2, b ∈ b1 ++ b2 := fun b h => List.mem_append_right _ h
    have np : p ∉ b1 ++ b2 := by
      simp only [List.mem_append, not_or]
      exact ⟨n1, n2⟩
    refine call_repr_slot (by omega) ⟨_, hp, rfl⟩ F.slot_list_repr.toG ?_
    refine call_list_reprK (as := b1 ++ b2) (h₀ := s.heap) (d := 20) (ts := [t1, t2]) hp rfl rfl np rfl ?_ gua (fun b _ => Clear.nil b) ?_ (fun _ _ y => y) ?_ sz
    · intro i y hy
      match i with
      | 0 => simp at hy; subst hy; exact ⟨t1, rfl, k1.more sub1⟩
      | 1 => simp at hy; subst hy; exact ⟨t2, rfl, k2.more sub2⟩
      | i + 2 => simp at hy
    · show X.A.units + 1 + (20 + 1) < cLine
      omega
    · intro h' u tk keep
      exact ⟨_, _, rfl, .str (listText [t1, t2]), H, I.kept keep, ⟨u, rfl⟩, q⟩
end JgX
namespace Jg
open PySem PySem.Spec L2 JgX
/-! ### a thing of any kind, or a list of one -/
mutual
theorem Da.mv2 {p c : Addr} {H H' : Hp} (m : Mv p H H') : ∀ {v : V} {d : PyData}, Da p H v d → Da c H v d → Da c H' v d
  | _, _, .non, _ => .non
  | _, _, .bl b, _ => .bl b
  | _, _, .int i, _ => .int i
  | _, _, .str z, _ => .str z
  | _, _, .lst n e r, .lst n2 e2 r2 => by
    rw [e] at e2
    cases e2
    exact .lst n2 (m _ _ n e) (DaAll.mv2 m r r2)
  | _, _, .tup n e r, .tup n2 e2 r2 => by
    rw [e] at e2
    cases e2
    exact .tup n2 (m _ _ n e) (DaAll.mv2 m r r2)
theorem DaAll.mv2 {p c : Addr} {H H' : Hp} (m : Mv p H H') : ∀ {vs : List V} {ds : List PyData}, DaAll p H vs ds → DaAll c H vs ds → DaAll c H' vs ds
  | _, _, .nil, _ => .nil
  | _, _, .cons a r, .cons a2 r2 => .cons (Da.mv2 m a a2) (DaAll.mv2 m r r2)
end
mutual
theorem Da.fresh {p c : Addr} {H : Hp} (n : H c = none) : ∀ {v : V} {d : PyData}, Da p H v d → Da c H v d
  | _, _, .non => .non
  | _, _, .bl b => .bl b
  | _, _, .int i => .int i
  | _, _, .str z => .str z
  | _, _, .lst _ e r => .lst (ne_of_none e n) e (DaAll.fresh n r)
  | _, _, .tup _ e r => .tup (ne_of_none e n) e (DaAll.fresh n r)
theorem DaAll.fresh {p c : Addr} {H : Hp} (n : H c = none) : ∀ {vs : List V} {ds : List PyData}, DaAll p H vs ds → DaAll c H vs ds
  | _, _, .nil => .nil
  | _, _, .cons a r => .cons (Da.fresh n a) (DaAll.fresh n r)
end
/-- small enough, and no list -/
def okX (d : PyData) : Bool := d.showable && decide (d.depth ≤ 5) && decide (d.shown.length ≤ 3000)
def noL : PyData → Bool
  | .list _ => false
  | _ => true
/-- v is d there, by lists that aren't the one at p -/
def Dx (p : Addr) (H : Hp) (v : V) (d : PyData) : Prop := (Da p H v d ∨ Dd H v d) ∧ okX d = true
theorem Dd.same {H H' : Hp} {v : V} {d : PyData} (h : Dd H v d) (s : ∀ a kvs, H a = some (.dK kvs) → H' a = some (.dK kvs)) : Dd H' v d := by
  obtain ⟨a, e, ⟨h, e2⟩ | ⟨x, i, h, e2⟩⟩ := h
  · exact ⟨a, e, Or.inl ⟨s _ _ h, e2⟩⟩
  · exact ⟨a, e, Or.inr ⟨x, i, s _ _ h, e2⟩⟩
theorem Dx.fresh {p c : Addr} {H : Hp} {v : V} {d : PyData} (n : H c = none) (h : Dx p H v d) : Dx c H v d := ⟨h.1.imp (Da.fresh n) id, h.2⟩
theorem Dx.sw {p : Addr} {H : Hp} {v : V} {d : PyData} (K : PySem.W.Frag) (h : Dx p H v d) : Dq K H v d ∧ d.showable = true ∧ d.depth ≤ 20 ∧ d.shown.length ≤ 100000 := by
  obtain ⟨h, o⟩ := h
  unfold okX at o
  rw [Bool.and_eq_true, Bool.and_eq_true, decide_eq_true_eq, decide_eq_true_eq] at o
  refine ⟨?_, o.1.1, by omega, by omega⟩
  rcases h with h | h
  · exact Or.inl ⟨h.dp K, h.plain⟩
  · exact Or.inr h
theorem Dx.item {p : Addr} {H : Hp} {v : V} {d : PyData} (K : PySem.W.Frag) (h : Dx p H v d) : Sw K H v d.shown := Or.inl ⟨d, (h.sw K).1, (h.sw K).2.1, (h.sw K).2.2.1, rfl, (h.sw K).2.2.2⟩
/-- any thing here: no list, an empty one, or a list of one thing -/
def OneV (p : Addr) (H : Hp) (v : V) : Prop := (∃ d, Dx p H v d ∧ noL d = true) ∨ (∃ c, c ≠ p ∧ v = .ref c ∧ H c = some (.lst [])) ∨ ∃ c x d, c ≠ p ∧ v = .ref c ∧ H c = some (.lst [x]) ∧ Dx c H x d ∧ Dx p H x d
theorem not_dK {p : Addr} {H : Hp} {n : Nat} (B : Bg H p n) (kvs : List (Key × V)) : H p ≠ some (.dK kvs) := fun e => bg_no B e no_dK rfl
theorem Dx.mv {p : Addr} {H H' : Hp} {v : V} {d : PyData} (np : ∀ kvs, H p ≠ some (.dK kvs)) (m : Mv p H H') (h : Dx p H v d) : Dx p H' v d :=
  ⟨h.1.imp (Da.mv m) fun h => h.same fun a kvs e => m a _ (fun z => np kvs (by rw [← z]; exact e)) e, h.2⟩
theorem Dx.mv2 {p c : Addr} {H H' : Hp} {v : V} {d : PyData} (np : ∀ kvs, H p ≠ some (.dK kvs)) (m : Mv p H H') (h : Dx p H v d) (g : Dx c H v d) : Dx c H' v d := by
  refine ⟨?_, g.2⟩
  rcases h.1 with h1 | h1 <;> rcases g.1 with g1 | g1
  · exact Or.inl (h1.mv2 m g1)
  · exact Or.inr (g1.same fun a kvs e => m a _ (fun z => np kvs (by rw [← z]; exact e)) e)
  · exact Or.inr (h1.same fun a kvs e => m a _ (fun z => np kvs (by rw [← z]; exact e)) e)
  · exact Or.inr (g1.same fun a kvs e => m a _ (fun z => np kvs (by rw [← z]; exact e)) e)
theorem OneV.mv {p : Addr} {H H' : Hp} {v : V} (np : ∀ kvs, H p ≠ some (.dK kvs)) (m : Mv p H H') (h : OneV p H v) : OneV p H' v := by
  rcases h with ⟨d, h, n⟩ | ⟨c, n, rfl, e⟩ | ⟨c, x, d, n, rfl, e, h1, h2⟩
  · exact Or.inl ⟨d, h.mv np m, n⟩
  · exact Or.inr (Or.inl ⟨c, n, rfl, m _ _ n e⟩)
  · exact Or.inr (Or.inr ⟨c, x, d, n, rfl, m _ _ n e, h2.mv2 np m h1, h2.mv np m⟩)
theorem mv_same {p : Addr} {H H' : Hp} (s : Same H H') : Mv p H H' := fun b o _ e => s b o e
theorem Da.same {p : Addr} {H H' : Hp} {v : V} {d : PyData} (s : Same H H') (h : Da p H v d) : Da p H' v d := h.mv (mv_same s)
theorem Dx.same {p : Addr} {H H' : Hp} {v : V} {d : PyData} (s : Same H H') (h : Dx p H v d) : Dx p H' v d := ⟨h.1.imp (Da.same s) fun h => h.same fun a kvs e => s _ _ e, h.2⟩
theorem OneV.same {p : Addr} {H H' : Hp} {v : V} (s : Same H H') (h : OneV p H v) : OneV p H' v := by
  rcases h with ⟨d, h, n⟩ | ⟨c, n, rfl, e⟩ | ⟨c, x, d, n, rfl, e, h1, h2⟩
  · exact Or.inl ⟨d, h.same s, n⟩
  · exact Or.inr (Or.inl ⟨c, n, rfl, s _ _ e⟩)
  · exact Or.inr (Or.inr ⟨c, x, d, n, rfl, s _ _ e, h1.same s, h2.same s⟩)
/-- not a list: so tells isinstance -/
theorem Dx.noList {p : Addr} {H : Hp} {v : V} {d : PyData} {K : PySem.W.Frag} (h : Dx p H v d) (n : noL d = true) : Isi K H v "list" false := by
  obtain ⟨ty, ht, e⟩ := TgR.kind (K := K) h.1
  subst e
  cases d with
  | list ds => cases n
  | none => exact Isi.of ht (show kitB "NoneType" "list" = some false by decide +kernel)
  | bool b => exact Isi.of ht (show kitB "bool" "list" = some false by decide +kernel)
  | int i => exact Isi.of ht (show kitB "int" "list" = some false by decide +kernel)
  | str z => exact Isi.of ht (show kitB "str" "list" = some false by decide +kernel)
  | tuple ds => exact Isi.of ht (show kitB "tuple" "list" = some false by decide +kernel)
  | dict ds => exact Isi.of ht (show kitB "dict" "list" = some false by decide +kernel)
/-- [1 for x in xs if t], t never met -/
theorem lc_none {K : PySem.W.Frag} {σ : L2.St} {H : Hp} {Q : VK} {i : Nat} {tt : TT} {te : TE} {a : Addr} {xs : List V} (sq : SqL K H a xs) (wv : ∀ x, wipe ((wipe σ [i]).set i (some x)) [i] = wipe σ [i])
    (hs : ∀ x ∈ xs, ∀ (H2 : Hp) (B : Bool → Hp → Prop), Same H H2 → B false H2 → tt ((wipe σ [i]).set i (some x)) H2 B)
    (q : ∀ D, H D = none → Q (.ref D) (upd H D (.lst []))) : lcB (gName i) tt te [i] σ Q (Itl K a) H := by
  intro D hD
  refine lc_list (xs := xs) (fun j H2 => H2 = upd H D (.lst [])) rfl ?_ ?_ ?_
  · rintro j H2 hj rfl
    rcases sq with (h | ⟨o, h⟩) | h
    · exact Or.inl (Or.inl (by rw [upd_ne (ne_of_none h hD)]; exact h))
    · exact Or.inl (Or.inr ⟨o, by rw [upd_ne (ne_of_none h hD)]; exact h⟩)
    · exact Or.inr h
  · rintro j x H2 hx rfl
    refine ⟨wv x, ?_⟩
    refine hs x (List.mem_of_getElem? hx) _ _ (fun b o e => by rw [upd_ne (ne_of_none e hD)]; exact e) ?_
    rw [if_neg Bool.false_ne_true]
  · rintro H2 rfl
    exact q D hD
end Jg
namespace JgHd
open PySem PySem.W PySem.Calls PyProof.Rows PySem.Spec L2 JgX
/-! ### a head by one run: what the written part says, as truths that the kernel looks up -/
theorem frA_eq {α : Type} (n : Addr) (k : Addr → α) : frA n k = k n := by
  cases n <;> rfl
theorem obsT_eq (lo hi : Nat) (fx : Frag → Bool) (ad : List (Frag → Addr)) (vs : List FnV) (s : SharedT) : obsT lo hi fx ad s = (hookJ lo hi fx ad vs).obs s.abs := by
  have e : HandSHeadRun.getT s = s.abs.heap.get? := funext (HandSHeadRun.getT_eq s)
  unfold obsT
  rw [e]
  rfl
section
variable {K : Frag} {fx : Frag → Bool} {ad : List (Frag → Addr)} {vs : List FnV}
theorem says_fx (c : obsJ fx ad K = (true, vs)) : fx K = true := congrArg (fun z : AlJ => z.1) c
theorem says_fn (c : obsJ fx ad K = (true, vs)) (i : Nat) {a : Frag → Addr} {v : FnV} (ha : ad[i]? = some a := by rfl) (hv : vs[i]? = some v := by rfl) : fnV K (a K) = v := by
  have e : ad.map (fun a => fnV K (a K)) = vs := congrArg (fun z : AlJ => z.2) c
  have e2 : (ad.map fun a => fnV K (a K))[i]? = vs[i]? := by rw [e]
  rw [List.getElem?_map, ha, hv] at e2
  exact Option.some.inj e2
/-! ### truths -/
theorem ba {a b : Bool} (h : (a && b) = true) : a = true ∧ b = true := Bool.and_eq_true_iff.mp h
/-- one of a row of truths -/
theorem all_at {α : Type} {l : List α} {p : α → Bool} (h : l.all p = true) (i : Nat) {x : α} (e : l[i]? = some x := by rfl) : p x = true := List.all_eq_true.mp h x (List.mem_of_getElem? e)
theorem is_ok {α : Type} [DecidableEq α] {a b : α} (h : isB a b = true) : a = b := of_decide_eq_true h
theorem glo_in {x : Str} (c : gloB K x = true) : nsIn K mainGlobals x = some (some (.ref (He.ga K x))) := is_ok c
theorem free_in {x : Str} (c : freeB K x = true) : nsIn K mainGlobals x = some none := is_ok c
theorem const_in {x : Str} {v : V} (c : constB K x v = true) : ∃ u, nsIn K mainGlobals x = some (some u) ∧ RelV v u := by
  unfold constB at c
  split at c
  · rename_i u e
    exact ⟨u, e, He.relB_ok c⟩
  · cases c
/-! ### a def -/
theorem fun_of {x qual : Str} {st : Stmt} {a : Addr} (e : fnV K a = textV x qual (defArgs st) (defBody st) (defScope st) []) (c : funB K a qual [] [] = true) : ∃ fd, Fun K x qual st a fd := by
  obtain ⟨kp, c2⟩ := ba c
  unfold fnV at e
  unfold textV at e
  cases q : K.lookup a with
  | none =>
    rw [q] at c2
    cases c2
  | some o =>
    obtain ⟨oc, od, dt, osl⟩ := o
    rw [q] at c2 e
    cases dt with
    | func fd =>
      obtain ⟨n1, n2, n3, n4, n5, n6, n7, n8, n9, n10, n11, n12, n13, n14, n15⟩ := fd
      simp only [Option.some.injEq, Prod.mk.injEq, List.map_eq_nil_iff] at e
      obtain ⟨h1, h2, h3, h4, h5, h6, h7, h8⟩ := e
      subst h1 h2 h3 h4 h5 h6 h7 h8
      obtain ⟨k1, k2⟩ := ba (show (codeIn K n13 n2 && (He.dflB K n8 [] && He.kwdB K n9 [])) = true from c2)
      obtain ⟨k3, k4⟩ := ba k2
      rcases He.dflB_ok k3 with ⟨_, k⟩ | ⟨k, _⟩
      · subst k
        exact ⟨_, ⟨oc, od, n9, n10, n11, n12, n13, n14, osl, rfl, q, k1⟩, kp⟩
      · exact absurd rfl k
    | _ => cases c2
theorem funD_of {x qual : Str} {params : Arguments} {body : List Stmt} {scope : Scope} {a : Addr} {dvs : List V} {kws : List (Str × V)} (e : fnV K a = textV x qual params body scope []) (c : funB K a qual dvs kws = true) : ∃ fd, FunD K x qual params body scope dvs kws a fd := by
  obtain ⟨kp, c2⟩ := ba c
  unfold fnV at e
  unfold textV at e
  cases q : K.lookup a with
  | none =>
    rw [q] at c2
    cases c2
  | some o =>
    obtain ⟨oc, od, dt, osl⟩ := o
    rw [q] at c2 e
    cases dt with
    | func fd =>
      obtain ⟨n1, n2, n3, n4, n5, n6, n7, n8, n9, n10, n11, n12, n13, n14, n15⟩ := fd
      simp only [Option.some.injEq, Prod.mk.injEq, List.map_eq_nil_iff] at e
      obtain ⟨h1, h2, h3, h4, h5, h6, h7, h8⟩ := e
      subst h1 h2 h3 h4 h5 h6 h7 h8
      obtain ⟨k1, k2⟩ := ba (show (codeIn K n13 n2 && (He.dflB K n8 dvs && He.kwdB K n9 kws)) = true from c2)
      obtain ⟨k3, k4⟩ := ba k2
      exact ⟨_, ⟨oc, od, n8, n9, n10, n11, n12, n13, n14, osl, rfl, q, k1, He.dflB_ok k3, He.kwdB_ok k4⟩, kp⟩
    | _ => cases c2
/-! ### a class of exceptions -/
theorem exc_in {C : Addr} {newId : String} {bmB : List Value} (c : excB K C newId bmB = true) :
    ∃ nm q N bs bm sn sub ab col dd k0 k1 k2 k3 k5, K.lookup C = some (excClassObj nm q C N bs bm true sn sub ab col dd k0 k1 k2 k3 k5 newId) ∧ excTail bmB bm = true := by
  unfold excB at c
  split at c
  · rename_i dd cd sl ho
    split at c
    · rename_i C' bm k0 k1 k2 k3 n k5 hm hs
      simp only [Bool.and_eq_true, beq_iff_eq, Bool.not_eq_true'] at c
      obtain ⟨rfl, rfl, hdel, hdct, ht⟩ := c
      obtain ⟨nm, bs, mro, ns, qn, hd, sn, sub, ab, col, del⟩ := cd
      dsimp only at hm hdel hdct
      subst hm hdel hdct
      have hsl : sl = #[k0, k1, k2, k3, some (.builtin n), k5] := by
        obtain ⟨l⟩ := sl
        simp only at hs
        rw [hs]
      subst hsl
      exact ⟨nm, qn, ns, bs, bm, sn, sub, ab, col, dd, k0, k1, k2, k3, k5, ho, ht⟩
    · cases c
  · cases c
theorem xfn_in {P : Program} {C I : Addr} {x qual : Str} {st : Stmt} (e : fnV K I = textV x qual (defArgs st) (defBody st) (defScope st) ["__class__"]) (c : xfnB K C I qual P.main.file = true)
    (iC : findIn K (.ref C) "__init__" = some (some (.ref I))) (tI : typeIn K (.ref I) = some (.type "function")) : ∃ fd, XFn P K C I fd qual (defArgs st) (defBody st) (defScope st) := by
  unfold fnV at e
  unfold textV at e
  unfold xfnB at c
  cases q : K.lookup I with
  | none =>
    rw [q] at c
    cases c
  | some o =>
    obtain ⟨oc, od, dt, osl⟩ := o
    rw [q] at c e
    cases dt with
    | func fd =>
      obtain ⟨n1, n2, n3, n4, n5, n6, n7, n8, n9, n10, n11, n12, n13, n14, n15⟩ := fd
      simp only [Option.some.injEq, Prod.mk.injEq] at e
      obtain ⟨h1, h2, h3, h4, h5, h6, h7, h8⟩ := e
      subst h1 h2 h3 h4 h5 h6 h8
      dsimp only at c h7
      split at c
      · rename_i cda y cc
        obtain ⟨k1, c⟩ := ba c
        obtain ⟨k2, c⟩ := ba c
        obtain ⟨k3, k4⟩ := ba c
        simp only [List.map_cons, List.map_nil, List.cons.injEq, and_true] at h7
        subst h7
        rcases He.dflB_ok k2 with ⟨_, k⟩ | ⟨k, _⟩
        · subst k
          split at k3
          · rename_i ccl cdd vs ccs hc
            split at k3
            · rename_i fl tf hv
              split at k4
              · rename_i cl cld C' csl hz
                have z : C' = C := beq_iff_eq.mp k4
                subst z
                exact ⟨_, ⟨⟨_, cc, cda, oc, n9, n10, n11, n14, ccl, cl, od, n12, cdd, cld, osl, ccs, csl, vs, fl, tf, rfl, q, k1, hc, hv, k3, hz⟩, iC, tI⟩⟩
              · cases k4
            · cases k3
          · cases k3
        · exact absurd rfl k
      · cases c
    | _ => cases c
theorem ct_of {P : Program} {h : Heap} {mg : Str → Option Value} (X : K.In h) (G : h.Ns mainGlobals mg) {x : Str} {newId i B : String} {bmB : List Value} {field qual nm : Str} {st : Stmt} (tk : takB K = true) (c : ctB K x newId i B bmB field qual P.main.file = true)
    (e : fnV K (He.ma K (He.ga K x) "__init__") = textV nm qual (defArgs st) (defBody st) (defScope st) ["__class__"])
    (hX : bmB.contains (.type "BaseException") = true := by decide +kernel) (hO : bmB.contains (.type "object") = true := by decide +kernel) (hB : bmB.contains (.type B) = true := by decide +kernel) :
    ∃ fd, CT P K mg (He.ga K x) (He.ma K (He.ga K x) "__init__") fd x qual field B newId i bmB st := by
  obtain ⟨c1, c⟩ := ba c
  obtain ⟨c2, c⟩ := ba c
  obtain ⟨c3, c⟩ := ba c
  obtain ⟨c4, c⟩ := ba c
  obtain ⟨c5, c⟩ := ba c
  obtain ⟨c6, c⟩ := ba c
  obtain ⟨c7, c⟩ := ba c
  obtain ⟨c8, c⟩ := ba c
  obtain ⟨c9, c10⟩ := ba c
  obtain ⟨nm, q, N, bs, bm, sn, sub, ab, col, dd, k0, k1, k2, k3, k5, l, t⟩ := exc_in c2
  obtain ⟨a1, a⟩ := ba c3
  obtain ⟨a2, a3⟩ := ba a
  obtain ⟨t1, t2⟩ := ba tk
  obtain ⟨fd, F⟩ := xfn_in e c10 (is_ok c7) (is_ok c8)
  exact ⟨fd, xc_mk l t (is_ok c4) (cl_tail l t hX) (cl_ty l) c5 (is_ok c6) (cl_tail l t hB), F, is_ok c9, mg_of X G (glo_in c1), cl_xa l t hX hO (is_ok a1) (is_ok a2) (is_ok a3) (is_ok t1) (is_ok t2)⟩
theorem pl_of {B : String} {x : Str} {newId i : String} {bmB : List Value} (tk : takB K = true) (c : plB K x newId i bmB = true) (hX : bmB.contains (.type "BaseException") = true := by decide +kernel) (hO : bmB.contains (.type "object") = true := by decide +kernel) :
    nsIn K mainGlobals x = some (some (.ref (He.ga K x))) ∧ Plain K (He.ga K x) B newId i bmB ∧ XA K (He.ga K x) ∧ typeIn K (.ref (He.ga K x)) = some (.type "type") := by
  obtain ⟨c1, c⟩ := ba c
  obtain ⟨c2, c⟩ := ba c
  obtain ⟨c3, c⟩ := ba c
  obtain ⟨c4, c5⟩ := ba c
  obtain ⟨nm, q, N, bs, bm, sn, sub, ab, col, dd, k0, k1, k2, k3, k5, l, t⟩ := exc_in c2
  obtain ⟨a1, a⟩ := ba c3
  obtain ⟨a2, a3⟩ := ba a
  obtain ⟨t1, t2⟩ := ba tk
  exact ⟨glo_in c1, pl_mk l t c4 (is_ok c5), cl_xa l t hX hO (is_ok a1) (is_ok a2) (is_ok a3) (is_ok t1) (is_ok t2), cl_ty l⟩
theorem rows_in {xs : List Str} (h : (xs.all fun x => isB (typeIn K (.ref (He.ga K x))) (some (.type "type")) && (match clsIn K (He.ga K x) with
  | some cd => cd.mro.head? == some (.ref (He.ga K x))
  | none => false)) = true) : Cls K (rowK K xs) := by
  intro i C bm e
  unfold rowK at e
  rw [List.getElem?_map] at e
  cases hx : xs[i]? with
  | none => rw [hx] at e; cases e
  | some x =>
    rw [hx] at e
    obtain ⟨rfl, rfl⟩ := Prod.mk.inj (Option.some.inj e)
    obtain ⟨h1, h2⟩ := ba (List.all_eq_true.mp h x (List.mem_of_getElem? hx))
    split at h2
    · rename_i cd hc
      refine ⟨⟨cd, hc, ?_⟩, is_ok h1⟩
      unfold above
      rw [hc]
      have z : cd.mro.head? = some (.ref (He.ga K x)) := beq_iff_eq.mp h2
      cases hm : cd.mro with
      | nil => rw [hm] at z; cases z
      | cons v r =>
        rw [hm] at z
        cases z
        show _ :: r = _ :: cd.mro.tail
        rw [hm]
        rfl
    · cases h2
theorem frVs_eq : ∀ (vs : List Value) (k : List Value → Bool), frVs vs k = k vs
  | [], k => rfl
  | v :: vs, k => by
    unfold frVs
    cases v <;> simp only [frA_eq, frVs_eq vs]
theorem frRows_eq : ∀ (xs : List Str) (k : List (Addr × List Value) → Bool), frRows K xs k = k (rowK K xs)
  | [], k => rfl
  | x :: xs, k => by
    unfold frRows
    rw [frA_eq, frVs_eq, frRows_eq xs]
    rfl
theorem row_at {xs : List Str} (i : Nat) {x : Str} (e : xs[i]? = some x := by rfl) : (rowK K xs)[i]? = some (He.ga K x, above K (He.ga K x)) := by
  unfold rowK
  rw [List.getElem?_map, e]
  rfl
end
end JgHd
namespace Jg
open PySem PySem.Spec PyProof.Rows L2
/-- the goal behind a head by facts, from the law's promise -/
theorem walkH {l : PySem.W.OpenLaw} {n k : Nat} {q : Program} {loose : List Str} {XP : (Str → Option Value) → Heap → Prop} {YP : World → Heap → Prop} {d : DefRec} {sp : PySem.W.Frag → Sp} {x : Str}
    (hn : l.most = some n) (hn2 : n ≤ sizeLine) (hdf : d.params.defaults = []) (room : Room k callerA)
    (F : ∀ (w : World) (mg : Str → Option Value) (fa : Addr) (h : Heap), YP w h → h.Ns mainGlobals mg → mg d.name = some (.ref fa) →
      ∃ (K : PySem.W.Frag) (fd : FuncData), K.In h ∧ (∀ (s : Shared) (u : Value), BindsTo s fd ⟨[u], []⟩ [(x, u)]) ∧ ∀ base : Heap, K.In base → base.Ns mainGlobals mg → FnG l.prog w K mg base k fa fd [x] (sp K))
    (want : ∀ (K : PySem.W.Frag) (H : Hp) (a : Addr) (ns : List Int), ns.length ≤ n → Only H → SqL K H a (ns.map V.int) → sp K [.ref a] H (fun v _ => v = .bl true) fun _ _ _ => False) :
    PySem.W.WalkO q loose XP YP l.row.toRowW d [] (fun f vs => PySem.call f vs) := by
  refine Att.attach_call hn hdf ?_
  intro w s₀ s₁ mg mb fa o pm cd doc a vs ns G Y ho hd hcd hmg hobj hints hlen hg
  obtain ⟨K, fd, kin, hb, hF⟩ := F w mg fa _ Y G.T.g hmg
  exact call_law kin G.T.g G.T.b G.T.builtins G.T.nolimit hg hobj hints (Nat.le_trans hlen hn2) room hF hb fun H on sq => want K H a ns hlen on sq
end Jg
namespace K03
open PySem PySem.Spec L2 Jg
abbrev n_law_cell : List Str := ["_law_script", "_law_k"]
theorem sc_law_cell : FnScope n_law_cell ["_law_script", "_law_k"] (defScope s_law_cell) := ⟨rfl, rfl, rfl, by decide +kernel, rfl, by decide +kernel, by decide +kernel⟩
abbrev n_law_bag : List Str := ["_law_cell_here"]
theorem sc_law_bag : FnScope n_law_bag ["_law_cell_here"] (defScope s_law_bag) := ⟨rfl, rfl, rfl, by decide +kernel, rfl, by decide +kernel, by decide +kernel⟩
abbrev n_law_take : List Str := ["_law_bag_here", "_law_much", "_law_digit", "_law_number"]
theorem sc_law_take : FnScope n_law_take ["_law_bag_here", "_law_much"] (defScope s_law_take) := ⟨rfl, rfl, rfl, by decide +kernel, rfl, by decide +kernel, by decide +kernel⟩
abbrev n_law_marks_first : List Str := ["_law_e", "_law_gained"]
theorem sc_law_marks_first : FnScope n_law_marks_first ["_law_e"] (defScope s_law_marks_first) := ⟨rfl, rfl, rfl, by decide +kernel, rfl, by decide +kernel, by decide +kernel⟩
abbrev n_law_marks_last : List Str := ["_law_e", "_law_gained"]
theorem sc_law_marks_last : FnScope n_law_marks_last ["_law_e"] (defScope s_law_marks_last) := ⟨rfl, rfl, rfl, by decide +kernel, rfl, by decide +kernel, by decide +kernel⟩
abbrev n_law_families : List Str := ["_law_e", "_law_own"]
theorem sc_law_families : FnScope n_law_families ["_law_e"] (defScope s_law_families) := ⟨rfl, rfl, rfl, by decide +kernel, rfl, by decide +kernel, by decide +kernel⟩
abbrev n_law_family_of : List Str := ["_law_place"]
theorem sc_law_family_of : FnScope n_law_family_of ["_law_place"] (defScope s_law_family_of) := ⟨rfl, rfl, rfl, by decide +kernel, rfl, by decide +kernel, by decide +kernel⟩
abbrev n_law_made_first : List Str := ["_law_one", "_law_gained"]
theorem sc_law_made_first : FnScope n_law_made_first ["_law_one"] (defScope s_law_made_first) := ⟨rfl, rfl, rfl, by decide +kernel, rfl, by decide +kernel, by decide +kernel⟩
abbrev n_law_made_last : List Str := ["_law_one", "_law_gained"]
theorem sc_law_made_last : FnScope n_law_made_last ["_law_one"] (defScope s_law_made_last) := ⟨rfl, rfl, rfl, by decide +kernel, rfl, by decide +kernel, by decide +kernel⟩
abbrev n_law_any : List Str := ["_law_bag_here", "_law_some"]
theorem sc_law_any : FnScope n_law_any ["_law_bag_here"] (defScope s_law_any) := ⟨rfl, rfl, rfl, by decide +kernel, rfl, by decide +kernel, by decide +kernel⟩
abbrev n_law_very : List Str := ["_law_gained", "_law_thing", "_law_same"]
theorem sc_law_very : FnScope n_law_very ["_law_gained", "_law_thing"] (defScope s_law_very) := ⟨rfl, rfl, rfl, by decide +kernel, rfl, by decide +kernel, by decide +kernel⟩
abbrev n_law_fields_right : List Str := ["_law_place", "_law_e", "_law_one"]
theorem sc_law_fields_right : FnScope n_law_fields_right ["_law_place", "_law_e", "_law_one"] (defScope s_law_fields_right) := ⟨rfl, rfl, rfl, by decide +kernel, rfl, by decide +kernel, by decide +kernel⟩
abbrev n_law_taken : List Str := ["_law_e", "_law_place"]
theorem sc_law_taken : FnScope n_law_taken ["_law_e", "_law_place"] (defScope s_law_taken) := ⟨rfl, rfl, rfl, by decide +kernel, rfl, by decide +kernel, by decide +kernel⟩
abbrev n_law_by_name_right : List Str := ["_law_one", "_law_made", "_law_e"]
theorem sc_law_by_name_right : FnScope n_law_by_name_right ["_law_one"] (defScope s_law_by_name_right) := ⟨rfl, rfl, rfl, by decide +kernel, rfl, by decide +kernel, by decide +kernel⟩
abbrev n_law_right : List Str := ["_law_bag_here", "_law_one", "_law_made", "_law_place", "_law_e", "_law_marks", "_law_k"]
theorem sc_law_right : FnScope n_law_right ["_law_bag_here"] (defScope s_law_right) := ⟨rfl, rfl, rfl, by decide +kernel, rfl, by decide +kernel, by decide +kernel⟩
abbrev n_law : List Str := ["_law_script", "_law_k"]
theorem sc_law : FnScope n_law ["_law_script"] (defScope s_law) := ⟨rfl, rfl, rfl, by decide +kernel, rfl, by decide +kernel, by decide +kernel⟩
theorem zx_NoName : JgX.XSt xs_NoName "found" "found" := ⟨⟨_, _, _, _, _, _, _, _, _, _, _, rfl, fun _ => ⟨_, rfl⟩, fun _ => rfl, fun _ => rfl⟩, rfl, rfl, rfl, rfl, rfl, by decide +kernel, rfl, rfl, ⟨_, rfl, rfl⟩, by decide, by decide⟩
theorem zy_NoName : JgX.XSz xs_NoName "found" "found" "no name" := ⟨_, _, _, _, _, _, _, _, _, _, rfl, fun _ => ⟨_, rfl⟩, fun _ => rfl, fun _ => rfl⟩
theorem zx_NoWords : JgX.XSt xs_NoWords "found" "found" := ⟨⟨_, _, _, _, _, _, _, _, _, _, _, rfl, fun _ => ⟨_, rfl⟩, fun _ => rfl, fun _ => rfl⟩, rfl, rfl, rfl, rfl, rfl, by decide +kernel, rfl, rfl, ⟨_, rfl, rfl⟩, by decide, by decide⟩
theorem zy_NoWords : JgX.XSz xs_NoWords "found" "found" "no words" := ⟨_, _, _, _, _, _, _, _, _, _, rfl, fun _ => ⟨_, rfl⟩, fun _ => rfl, fun _ => rfl⟩
theorem zx_NoSigns : JgX.XSt xs_NoSigns "found" "found" := ⟨⟨_, _, _, _, _, _, _, _, _, _, _, rfl, fun _ => ⟨_, rfl⟩, fun _ => rfl, fun _ => rfl⟩, rfl, rfl, rfl, rfl, rfl, by decide +kernel, rfl, rfl, ⟨_, rfl, rfl⟩, by decide, by decide⟩
theorem zy_NoSigns : JgX.XSz xs_NoSigns "found" "found" "no signs" := ⟨_, _, _, _, _, _, _, _, _, _, rfl, fun _ => ⟨_, rfl⟩, fun _ => rfl, fun _ => rfl⟩
theorem zx_NoSign : JgX.XSt xs_NoSign "at" "at" := ⟨⟨_, _, _, _, _, _, _, _, _, _, _, rfl, fun _ => ⟨_, rfl⟩, fun _ => rfl, fun _ => rfl⟩, rfl, rfl, rfl, rfl, rfl, by decide +kernel, rfl, rfl, ⟨_, rfl, rfl⟩, by decide, by decide⟩
theorem zy_NoSign : JgX.XSz xs_NoSign "at" "at" "no sign" := ⟨_, _, _, _, _, _, _, _, _, _, rfl, fun _ => ⟨_, rfl⟩, fun _ => rfl, fun _ => rfl⟩
theorem zx_NoWord : JgX.XSt xs_NoWord "found" "found" := ⟨⟨_, _, _, _, _, _, _, _, _, _, _, rfl, fun _ => ⟨_, rfl⟩, fun _ => rfl, fun _ => rfl⟩, rfl, rfl, rfl, rfl, rfl, by decide +kernel, rfl, rfl, ⟨_, rfl, rfl⟩, by decide, by decide⟩
theorem zy_NoWord : JgX.XSz xs_NoWord "found" "found" "no word" := ⟨_, _, _, _, _, _, _, _, _, _, rfl, fun _ => ⟨_, rfl⟩, fun _ => rfl, fun _ => rfl⟩
theorem zx_Beyond : JgX.XSt xs_Beyond "at" "at" := ⟨⟨_, _, _, _, _, _, _, _, _, _, _, rfl, fun _ => ⟨_, rfl⟩, fun _ => rfl, fun _ => rfl⟩, rfl, rfl, rfl, rfl, rfl, by decide +kernel, rfl, rfl, ⟨_, rfl, rfl⟩, by decide, by decide⟩
theorem zy_Beyond : JgX.XSz xs_Beyond "at" "at" "behind the end of the term" := ⟨_, _, _, _, _, _, _, _, _, _, rfl, fun _ => ⟨_, rfl⟩, fun _ => rfl, fun _ => rfl⟩
theorem zx_Unended : JgX.XSt xs_Unended "many" "many" := ⟨⟨_, _, _, _, _, _, _, _, _, _, _, rfl, fun _ => ⟨_, rfl⟩, fun _ => rfl, fun _ => rfl⟩, rfl, rfl, rfl, rfl, rfl, by decide +kernel, rfl, rfl, ⟨_, rfl, rfl⟩, by decide, by decide⟩
theorem zy_Unended : JgX.XSz xs_Unended "many" "many" "the term doesn't end" := ⟨_, _, _, _, _, _, _, _, _, _, rfl, fun _ => ⟨_, rfl⟩, fun _ => rfl, fun _ => rfl⟩
theorem zx_NoTerm : JgX.XSt xs_NoTerm "found" "found" := ⟨⟨_, _, _, _, _, _, _, _, _, _, _, rfl, fun _ => ⟨_, rfl⟩, fun _ => rfl, fun _ => rfl⟩, rfl, rfl, rfl, rfl, rfl, by decide +kernel, rfl, rfl, ⟨_, rfl, rfl⟩, by decide, by decide⟩
theorem zy_NoTerm : JgX.XSz xs_NoTerm "found" "found" "no term" := ⟨_, _, _, _, _, _, _, _, _, _, rfl, fun _ => ⟨_, rfl⟩, fun _ => rfl, fun _ => rfl⟩
theorem zx_NoTerms : JgX.XSt xs_NoTerms "found" "found" := ⟨⟨_, _, _, _, _, _, _, _, _, _, _, rfl, fun _ => ⟨_, rfl⟩, fun _ => rfl, fun _ => rfl⟩, rfl, rfl, rfl, rfl, rfl, by decide +kernel, rfl, rfl, ⟨_, rfl, rfl⟩, by decide, by decide⟩
theorem zy_NoTerms : JgX.XSz xs_NoTerms "found" "found" "no terms" := ⟨_, _, _, _, _, _, _, _, _, _, rfl, fun _ => ⟨_, rfl⟩, fun _ => rfl, fun _ => rfl⟩
theorem zx_NoLetter : JgX.XSt xs_NoLetter "found" "found" := ⟨⟨_, _, _, _, _, _, _, _, _, _, _, rfl, fun _ => ⟨_, rfl⟩, fun _ => rfl, fun _ => rfl⟩, rfl, rfl, rfl, rfl, rfl, by decide +kernel, rfl, rfl, ⟨_, rfl, rfl⟩, by decide, by decide⟩
theorem zy_NoLetter : JgX.XSz xs_NoLetter "found" "found" "no letter" := ⟨_, _, _, _, _, _, _, _, _, _, rfl, fun _ => ⟨_, rfl⟩, fun _ => rfl, fun _ => rfl⟩
theorem zx_NoPairs : JgX.XSt xs_NoPairs "found" "found" := ⟨⟨_, _, _, _, _, _, _, _, _, _, _, rfl, fun _ => ⟨_, rfl⟩, fun _ => rfl, fun _ => rfl⟩, rfl, rfl, rfl, rfl, rfl, by decide +kernel, rfl, rfl, ⟨_, rfl, rfl⟩, by decide, by decide⟩
theorem zy_NoPairs : JgX.XSz xs_NoPairs "found" "found" "no pairs" := ⟨_, _, _, _, _, _, _, _, _, _, rfl, fun _ => ⟨_, rfl⟩, fun _ => rfl, fun _ => rfl⟩
theorem zx_NoPutting : JgX.XSt xs_NoPutting "found" "found" := ⟨⟨_, _, _, _, _, _, _, _, _, _, _, rfl, fun _ => ⟨_, rfl⟩, fun _ => rfl, fun _ => rfl⟩, rfl, rfl, rfl, rfl, rfl, by decide +kernel, rfl, rfl, ⟨_, rfl, rfl⟩, by decide, by decide⟩
theorem zy_NoPutting : JgX.XSz xs_NoPutting "found" "found" "no putting" := ⟨_, _, _, _, _, _, _, _, _, _, rfl, fun _ => ⟨_, rfl⟩, fun _ => rfl, fun _ => rfl⟩
theorem zx_NoWay : JgX.XSt xs_NoWay "found" "found" := ⟨⟨_, _, _, _, _, _, _, _, _, _, _, rfl, fun _ => ⟨_, rfl⟩, fun _ => rfl, fun _ => rfl⟩, rfl, rfl, rfl, rfl, rfl, by decide +kernel, rfl, rfl, ⟨_, rfl, rfl⟩, by decide, by decide⟩
theorem zy_NoWay : JgX.XSz xs_NoWay "found" "found" "no way" := ⟨_, _, _, _, _, _, _, _, _, _, rfl, fun _ => ⟨_, rfl⟩, fun _ => rfl, fun _ => rfl⟩
theorem zx_NoNumber : JgX.XSt xs_NoNumber "found" "found" := ⟨⟨_, _, _, _, _, _, _, _, _, _, _, rfl, fun _ => ⟨_, rfl⟩, fun _ => rfl, fun _ => rfl⟩, rfl, rfl, rfl, rfl, rfl, by decide +kernel, rfl, rfl, ⟨_, rfl, rfl⟩, by decide, by decide⟩
theorem zy_NoNumber : JgX.XSz xs_NoNumber "found" "found" "no number" := ⟨_, _, _, _, _, _, _, _, _, _, rfl, fun _ => ⟨_, rfl⟩, fun _ => rfl, fun _ => rfl⟩
theorem zx_NoTruth : JgX.XSt xs_NoTruth "found" "found" := ⟨⟨_, _, _, _, _, _, _, _, _, _, _, rfl, fun _ => ⟨_, rfl⟩, fun _ => rfl, fun _ => rfl⟩, rfl, rfl, rfl, rfl, rfl, by decide +kernel, rfl, rfl, ⟨_, rfl, rfl⟩, by decide, by decide⟩
theorem zy_NoTruth : JgX.XSz xs_NoTruth "found" "found" "no truth" := ⟨_, _, _, _, _, _, _, _, _, _, rfl, fun _ => ⟨_, rfl⟩, fun _ => rfl, fun _ => rfl⟩
theorem zx_NoNote : JgX.XSt xs_NoNote "found" "found" := ⟨⟨_, _, _, _, _, _, _, _, _, _, _, rfl, fun _ => ⟨_, rfl⟩, fun _ => rfl, fun _ => rfl⟩, rfl, rfl, rfl, rfl, rfl, by decide +kernel, rfl, rfl, ⟨_, rfl, rfl⟩, by decide, by decide⟩
theorem zy_NoNote : JgX.XSz xs_NoNote "found" "found" "no note" := ⟨_, _, _, _, _, _, _, _, _, _, rfl, fun _ => ⟨_, rfl⟩, fun _ => rfl, fun _ => rfl⟩
theorem zx_NoList : JgX.XSt xs_NoList "found" "found" := ⟨⟨_, _, _, _, _, _, _, _, _, _, _, rfl, fun _ => ⟨_, rfl⟩, fun _ => rfl, fun _ => rfl⟩, rfl, rfl, rfl, rfl, rfl, by decide +kernel, rfl, rfl, ⟨_, rfl, rfl⟩, by decide, by decide⟩
theorem zy_NoList : JgX.XSz xs_NoList "found" "found" "no list" := ⟨_, _, _, _, _, _, _, _, _, _, rfl, fun _ => ⟨_, rfl⟩, fun _ => rfl, fun _ => rfl⟩
theorem zx_NoAsk : JgX.XSt xs_NoAsk "found" "found" := ⟨⟨_, _, _, _, _, _, _, _, _, _, _, rfl, fun _ => ⟨_, rfl⟩, fun _ => rfl, fun _ => rfl⟩, rfl, rfl, rfl, rfl, rfl, by decide +kernel, rfl, rfl, ⟨_, rfl, rfl⟩, by decide, by decide⟩
theorem zy_NoAsk : JgX.XSz xs_NoAsk "found" "found" "no ask" := ⟨_, _, _, _, _, _, _, _, _, _, rfl, fun _ => ⟨_, rfl⟩, fun _ => rfl, fun _ => rfl⟩
theorem zx_NoRule : JgX.XSt xs_NoRule "found" "found" := ⟨⟨_, _, _, _, _, _, _, _, _, _, _, rfl, fun _ => ⟨_, rfl⟩, fun _ => rfl, fun _ => rfl⟩, rfl, rfl, rfl, rfl, rfl, by decide +kernel, rfl, rfl, ⟨_, rfl, rfl⟩, by decide, by decide⟩
theorem zy_NoRule : JgX.XSz xs_NoRule "found" "found" "no rule" := ⟨_, _, _, _, _, _, _, _, _, _, rfl, fun _ => ⟨_, rfl⟩, fun _ => rfl, fun _ => rfl⟩
theorem zx_NoRules : JgX.XSt xs_NoRules "found" "found" := ⟨⟨_, _, _, _, _, _, _, _, _, _, _, rfl, fun _ => ⟨_, rfl⟩, fun _ => rfl, fun _ => rfl⟩, rfl, rfl, rfl, rfl, rfl, by decide +kernel, rfl, rfl, ⟨_, rfl, rfl⟩, by decide, by decide⟩
theorem zy_NoRules : JgX.XSz xs_NoRules "found" "found" "no rules" := ⟨_, _, _, _, _, _, _, _, _, _, rfl, fun _ => ⟨_, rfl⟩, fun _ => rfl, fun _ => rfl⟩
theorem zx_NoRow : JgX.XSt xs_NoRow "found" "found" := ⟨⟨_, _, _, _, _, _, _, _, _, _, _, rfl, fun _ => ⟨_, rfl⟩, fun _ => rfl, fun _ => rfl⟩, rfl, rfl, rfl, rfl, rfl, by decide +kernel, rfl, rfl, ⟨_, rfl, rfl⟩, by decide, by decide⟩
theorem zy_NoRow : JgX.XSz xs_NoRow "found" "found" "no row" := ⟨_, _, _, _, _, _, _, _, _, _, rfl, fun _ => ⟨_, rfl⟩, fun _ => rfl, fun _ => rfl⟩
theorem zx_NoShelf : JgX.XSt xs_NoShelf "found" "found" := ⟨⟨_, _, _, _, _, _, _, _, _, _, _, rfl, fun _ => ⟨_, rfl⟩, fun _ => rfl, fun _ => rfl⟩, rfl, rfl, rfl, rfl, rfl, by decide +kernel, rfl, rfl, ⟨_, rfl, rfl⟩, by decide, by decide⟩
theorem zy_NoShelf : JgX.XSz xs_NoShelf "found" "found" "no shelf" := ⟨_, _, _, _, _, _, _, _, _, _, rfl, fun _ => ⟨_, rfl⟩, fun _ => rfl, fun _ => rfl⟩
theorem zx_NoDeed : JgX.XSt xs_NoDeed "at" "at" := ⟨⟨_, _, _, _, _, _, _, _, _, _, _, rfl, fun _ => ⟨_, rfl⟩, fun _ => rfl, fun _ => rfl⟩, rfl, rfl, rfl, rfl, rfl, by decide +kernel, rfl, rfl, ⟨_, rfl, rfl⟩, by decide, by decide⟩
theorem zy_NoDeed : JgX.XSz xs_NoDeed "at" "at" "no deed" := ⟨_, _, _, _, _, _, _, _, _, _, rfl, fun _ => ⟨_, rfl⟩, fun _ => rfl, fun _ => rfl⟩
theorem zx_NoText : JgX.XSt xs_NoText "row" "row" := ⟨⟨_, _, _, _, _, _, _, _, _, _, _, rfl, fun _ => ⟨_, rfl⟩, fun _ => rfl, fun _ => rfl⟩, rfl, rfl, rfl, rfl, rfl, by decide +kernel, rfl, rfl, ⟨_, rfl, rfl⟩, by decide, by decide⟩
theorem zy_NoText : JgX.XSz xs_NoText "row" "row" "no text" := ⟨_, _, _, _, _, _, _, _, _, _, rfl, fun _ => ⟨_, rfl⟩, fun _ => rfl, fun _ => rfl⟩
theorem zx_NoLine : JgX.XSt xs_NoLine "found" "found" := ⟨⟨_, _, _, _, _, _, _, _, _, _, _, rfl, fun _ => ⟨_, rfl⟩, fun _ => rfl, fun _ => rfl⟩, rfl, rfl, rfl, rfl, rfl, by decide +kernel, rfl, rfl, ⟨_, rfl, rfl⟩, by decide, by decide⟩
theorem zy_NoLine : JgX.XSz xs_NoLine "found" "found" "no line" := ⟨_, _, _, _, _, _, _, _, _, _, rfl, fun _ => ⟨_, rfl⟩, fun _ => rfl, fun _ => rfl⟩
theorem zx_Unlike : JgX.XSt xs_Unlike "found" "found" := ⟨⟨_, _, _, _, _, _, _, _, _, _, _, rfl, fun _ => ⟨_, rfl⟩, fun _ => rfl, fun _ => rfl⟩, rfl, rfl, rfl, rfl, rfl, by decide +kernel, rfl, rfl, ⟨_, rfl, rfl⟩, by decide, by decide⟩
theorem zy_Unlike : JgX.XSz xs_Unlike "found" "found" "of other words" := ⟨_, _, _, _, _, _, _, _, _, _, rfl, fun _ => ⟨_, rfl⟩, fun _ => rfl, fun _ => rfl⟩
theorem zx_Twice : JgX.XSt xs_Twice "found" "found" := ⟨⟨_, _, _, _, _, _, _, _, _, _, _, rfl, fun _ => ⟨_, rfl⟩, fun _ => rfl, fun _ => rfl⟩, rfl, rfl, rfl, rfl, rfl, by decide +kernel, rfl, rfl, ⟨_, rfl, rfl⟩, by decide, by decide⟩
theorem zy_Twice : JgX.XSz xs_Twice "found" "found" "there already" := ⟨_, _, _, _, _, _, _, _, _, _, rfl, fun _ => ⟨_, rfl⟩, fun _ => rfl, fun _ => rfl⟩
theorem zx_TooMany : JgX.XSt xs_TooMany "many" "many" := ⟨⟨_, _, _, _, _, _, _, _, _, _, _, rfl, fun _ => ⟨_, rfl⟩, fun _ => rfl, fun _ => rfl⟩, rfl, rfl, rfl, rfl, rfl, by decide +kernel, rfl, rfl, ⟨_, rfl, rfl⟩, by decide, by decide⟩
theorem zy_TooMany : JgX.XSz xs_TooMany "many" "many" "too many" := ⟨_, _, _, _, _, _, _, _, _, _, rfl, fun _ => ⟨_, rfl⟩, fun _ => rfl, fun _ => rfl⟩
theorem zx_TooGreat : JgX.XSt xs_TooGreat "many" "many" := ⟨⟨_, _, _, _, _, _, _, _, _, _, _, rfl, fun _ => ⟨_, rfl⟩, fun _ => rfl, fun _ => rfl⟩, rfl, rfl, rfl, rfl, rfl, by decide +kernel, rfl, rfl, ⟨_, rfl, rfl⟩, by decide, by decide⟩
theorem zy_TooGreat : JgX.XSz xs_TooGreat "many" "many" "too great" := ⟨_, _, _, _, _, _, _, _, _, _, rfl, fun _ => ⟨_, rfl⟩, fun _ => rfl, fun _ => rfl⟩
theorem zx_NotThere : JgX.XSt xs_NotThere "found" "found" := ⟨⟨_, _, _, _, _, _, _, _, _, _, _, rfl, fun _ => ⟨_, rfl⟩, fun _ => rfl, fun _ => rfl⟩, rfl, rfl, rfl, rfl, rfl, by decide +kernel, rfl, rfl, ⟨_, rfl, rfl⟩, by decide, by decide⟩
theorem zy_NotThere : JgX.XSz xs_NotThere "found" "found" "not there" := ⟨_, _, _, _, _, _, _, _, _, _, rfl, fun _ => ⟨_, rfl⟩, fun _ => rfl, fun _ => rfl⟩
theorem zx_NoSpot : JgX.XSt xs_NoSpot "found" "found" := ⟨⟨_, _, _, _, _, _, _, _, _, _, _, rfl, fun _ => ⟨_, rfl⟩, fun _ => rfl, fun _ => rfl⟩, rfl, rfl, rfl, rfl, rfl, by decide +kernel, rfl, rfl, ⟨_, rfl, rfl⟩, by decide, by decide⟩
theorem zy_NoSpot : JgX.XSz xs_NoSpot "found" "found" "no spot" := ⟨_, _, _, _, _, _, _, _, _, _, rfl, fun _ => ⟨_, rfl⟩, fun _ => rfl, fun _ => rfl⟩
theorem zn_NoMore : JgX.XSn xs_NoMore "no more" := ⟨⟨_, _, _, _, _, _, rfl, fun _ => ⟨_, rfl⟩, fun _ => rfl⟩, rfl, rfl, rfl, rfl, by decide +kernel, rfl, rfl, ⟨_, rfl, rfl⟩⟩
theorem zx_Changed : JgX.XSt xs_Changed "many" "many" := ⟨⟨_, _, _, _, _, _, _, _, _, _, _, rfl, fun _ => ⟨_, rfl⟩, fun _ => rfl, fun _ => rfl⟩, rfl, rfl, rfl, rfl, rfl, by decide +kernel, rfl, rfl, ⟨_, rfl, rfl⟩, by decide, by decide⟩
theorem zy_Changed : JgX.XSz xs_Changed "many" "many" "changed meanwhile" := ⟨_, _, _, _, _, _, _, _, _, _, rfl, fun _ => ⟨_, rfl⟩, fun _ => rfl, fun _ => rfl⟩
theorem zx_Endless : JgX.XSt xs_Endless "many" "many" := ⟨⟨_, _, _, _, _, _, _, _, _, _, _, rfl, fun _ => ⟨_, rfl⟩, fun _ => rfl, fun _ => rfl⟩, rfl, rfl, rfl, rfl, rfl, by decide +kernel, rfl, rfl, ⟨_, rfl, rfl⟩, by decide, by decide⟩
theorem zy_Endless : JgX.XSz xs_Endless "many" "many" "no end so far" := ⟨_, _, _, _, _, _, _, _, _, _, rfl, fun _ => ⟨_, rfl⟩, fun _ => rfl, fun _ => rfl⟩

open JgX
/-- whose is whose: the place of its family -/
def famL (i : Nat) : List V := [.bl (decide (fam i = 34)), .bl (decide (fam i = 35)), .bl (decide (fam i = 36))] ++ [.bl (decide (fam i = 34)), .bl (decide (fam i = 35)), .bl (decide (fam i = 35) || decide (fam i = 36))]
/-- the class at place i, as the written part names it -/
def cA (K : PySem.W.Frag) (i : Nat) : Addr := match PySem.W.nsIn K mainGlobals (([Str.ofString "NoName", Str.ofString "NoWords", Str.ofString "NoSigns", Str.ofString "NoSign", Str.ofString "NoWord", Str.ofString "Beyond", Str.ofString "Unended", Str.ofString "NoTerm", Str.ofString "NoTerms", Str.ofString "NoLetter", Str.ofString "NoPairs", Str.ofString "NoPutting", Str.ofString "NoWay", Str.ofString "NoNumber", Str.ofString "NoTruth", Str.ofString "NoNote", Str.ofString "NoList", Str.ofString "NoAsk", Str.ofString "NoRule", Str.ofString "NoRules", Str.ofString "NoRow", Str.ofString "NoShelf", Str.ofString "NoDeed", Str.ofString "NoText", Str.ofString "NoLine", Str.ofString "Unlike", Str.ofString "Twice", Str.ofString "TooMany", Str.ofString "TooGreat", Str.ofString "NotThere", Str.ofString "NoSpot", Str.ofString "NoMore", Str.ofString "Changed", Str.ofString "Endless", Str.ofString "TermError", Str.ofString "Absent", Str.ofString "Ended"] : List Str).getD i "") with
  | some (some (.ref C)) => C
  | _ => 0
/-- v is an exception of the class at place i -/
def Exn (K : PySem.W.Frag) (H : Hp) (v : V) (i : Nat) : Prop := i < 37 ∧ Ex H v (cA K i)
/-- the field of the class at place i -/
def fldOf (i : Nat) : Str := ([Str.ofString "found", Str.ofString "found", Str.ofString "found", Str.ofString "at", Str.ofString "found", Str.ofString "at", Str.ofString "many", Str.ofString "found", Str.ofString "found", Str.ofString "found", Str.ofString "found", Str.ofString "found", Str.ofString "found", Str.ofString "found", Str.ofString "found", Str.ofString "found", Str.ofString "found", Str.ofString "found", Str.ofString "found", Str.ofString "found", Str.ofString "found", Str.ofString "found", Str.ofString "at", Str.ofString "row", Str.ofString "found", Str.ofString "found", Str.ofString "found", Str.ofString "many", Str.ofString "many", Str.ofString "found", Str.ofString "found", Str.ofString "found", Str.ofString "many", Str.ofString "many", Str.ofString "found", Str.ofString "found", Str.ofString "found"] : List Str).getD i ""
/-- x is the exception of the class at place i, made of v -/
def Made (K : PySem.W.Frag) (H : Hp) (x : V) (i : Nat) (v : V) : Prop := ∃ a, x = .ref a ∧ ((i = 31 ∧ H a = some (exo a (cA K i) none)) ∨ (i ≠ 31 ∧ ∃ z, KxF H a (cA K i) z [(fldOf i, v)]))
theorem Made.same {K : PySem.W.Frag} {H H' : Hp} {x v : V} {i : Nat} (s : Same H H') (h : Made K H x i v) : Made K H' x i v := by
  obtain ⟨a, rfl, ⟨e, h⟩ | ⟨e, z, h⟩⟩ := h
  · exact ⟨a, rfl, Or.inl ⟨e, s _ _ h⟩⟩
  · exact ⟨a, rfl, Or.inr ⟨e, z, h.all s⟩⟩
theorem Made.ex {K : PySem.W.Frag} {H : Hp} {x v : V} {i : Nat} (h : Made K H x i v) : Ex H x (cA K i) := by
  obtain ⟨a, rfl, ⟨e, h⟩ | ⟨e, z, h⟩⟩ := h
  · exact ⟨a, rfl, Or.inr h⟩
  · exact ⟨a, rfl, Or.inl ⟨z, _, h⟩⟩
theorem made_of {K : PySem.W.Frag} {H : Hp} {v : V} {i : Nat} {a C : Addr} {z fl : Str} (h : KxF H a C z [(fl, v)]) (e : cA K i = C) (hf : fldOf i = fl) (n : i ≠ 31) : Made K H (.ref a) i v := by
  subst e
  subst hf
  exact ⟨a, rfl, Or.inr ⟨n, z, h⟩⟩
/-- a row of them, from place n on -/
def MadeL (K : PySem.W.Frag) (H : Hp) (L : List V) (n : Nat) (v : V) : Prop := ∀ (i : Nat) (x : V), L[i]? = some x → Made K H x (n + i) v
theorem MadeL.nil {K : PySem.W.Frag} {H : Hp} {n : Nat} {v : V} : MadeL K H [] n v := fun i x h => by cases h
theorem MadeL.same {K : PySem.W.Frag} {H H' : Hp} {L : List V} {n : Nat} {v : V} (h : MadeL K H L n v) (s : Same H H') : MadeL K H' L n v := fun i x e => (h i x e).same s
theorem MadeL.snoc {K : PySem.W.Frag} {H H' : Hp} {L : List V} {n m : Nat} {v x : V} (h : MadeL K H L n v) (s : Same H H') (hm : n + L.length = m) (k : Made K H' x m v) : MadeL K H' (L ++ [x]) n v := fun i y e => by
  subst hm
  by_cases c : i < L.length
  · rw [List.getElem?_append_left c] at e
    exact (h i y e).same s
  · have l := (List.getElem?_eq_some_iff.mp e).1
    rw [List.length_append] at l
    simp at l
    have c' : i = L.length := by omega
    subst c'
    simp at e
    rw [← e]
    exact k
theorem _root_.JgX.Ex.new {H : Hp} {v : V} {C p : Addr} {o : HO} (h : Ex H v C) (e : H p = none) : Ex (upd H p o) v C := h.all fun b u x => upd_keep e x
theorem same_new {H : Hp} {p : Addr} {o : HO} (e : H p = none) : Same H (upd H p o) := fun b u x => upd_keep e x
theorem Exn.same {K : PySem.W.Frag} {H H' : Hp} {v : V} {i : Nat} (s : Same H H') (h : Exn K H v i) : Exn K H' v i := ⟨h.1, h.2.all s⟩

theorem dxD {p : Addr} {H : Hp} {v : V} {d : PyData} (h : Da p H v d) (e : okX d = true) : Dx p H v d := ⟨Or.inl h, e⟩
theorem one_leaf {p : Addr} {H : Hp} {v : V} {d : PyData} (h : Dx p H v d) (n : noL d = true) : OneV p H v ∧ ∃ d, Dx p H v d := ⟨Or.inl ⟨d, h, n⟩, d, h⟩
theorem upd_back {H : Hp} {a : Addr} {o u : HO} (h : H a = some o) : upd (upd H a u) a o = H := by
  funext b
  by_cases e : b = a
  · rw [e, upd_same, h]
  · rw [upd_ne e, upd_ne e]

theorem found_of : ∀ i : Nat, i < 34 → (i ≠ 3 ∧ i ≠ 5 ∧ i ≠ 6 ∧ i ≠ 22 ∧ i ≠ 23 ∧ i ≠ 27 ∧ i ≠ 28 ∧ i ≠ 31 ∧ i ≠ 32 ∧ i ≠ 33) → fldOf i = Str.ofString "found" := by decide +kernel
theorem g_kg {K : PySem.W.Frag} {n : Str} {te : TE} {σ : L2.St} {H : Hp} {Q : VK} (q : te σ H fun x H1 => ∃ (a C : Addr) (z : Str) (fs : List (Str × V)) (v : V), x = .ref a ∧ KxF H1 a C z fs ∧ XfC K C ∧ PySem.W.findIn K (.ref C) n = some none ∧ fs.lookup n = some v ∧ Q v H1) : JgX.tKg K n te σ H Q := q

theorem _root_.JgX.takes_no {X : Cx} : L2N.Takes X (fun _ _ _ _ => False) := fun _ _ ⟨_, _, _, _, _, _, _, _, _, _, _, _, _, _, _, _, w⟩ => w.elim

/-- each of them was made of v, and tells it by fl -/
def MadeF (K : PySem.W.Frag) (H : Hp) (L : List V) (fl : Str) (v : V) : Prop := ∀ x ∈ L, ∃ i, i < 34 ∧ i ≠ 31 ∧ fldOf i = fl ∧ Made K H x i v
theorem MadeF.nil {K : PySem.W.Frag} {H : Hp} {fl : Str} {v : V} : MadeF K H [] fl v := fun x h => by cases h
theorem MadeF.same {K : PySem.W.Frag} {H H' : Hp} {L : List V} {fl : Str} {v : V} (h : MadeF K H L fl v) (s : Same H H') : MadeF K H' L fl v := fun x e => by
  obtain ⟨i, h1, h2, h3, h4⟩ := h x e
  exact ⟨i, h1, h2, h3, h4.same s⟩
theorem MadeF.snoc {K : PySem.W.Frag} {H H' : Hp} {L : List V} {fl : Str} {i : Nat} {v x : V} (h : MadeF K H L fl v) (s : Same H H') (k : Made K H' x i v) (h1 : i < 34) (h2 : i ≠ 31) (h3 : fldOf i = fl) : MadeF K H' (L ++ [x]) fl v := fun y e => by
  rcases List.mem_append.mp e with e | e
  · exact h.same s y e
  · rw [List.mem_singleton.mp e]
    exact ⟨i, h1, h2, h3, k⟩

theorem dp_bl {K : PySem.W.Frag} {H : Hp} : ∀ bs : List Bool, DpAll K H (bs.map V.bl) (bs.map PyData.bool)
  | [] => .nil
  | b :: bs => .cons (.bl b) (dp_bl bs)
/-- the marks of the class at place i -/
def marksB (i : Nat) : List Bool := ((List.range 18).map fun j => decide (i = j)) ++ ((List.range 16).map fun j => decide (i = j + 18))
def kthB (i : Nat) : List Bool := (List.range 34).map fun j => decide (j = i)
def famB (i : Nat) : List Bool := [decide (fam i = 34), decide (fam i = 35), decide (fam i = 36)] ++ [decide (fam i = 34), decide (fam i = 35), decide (fam i = 35) || decide (fam i = 36)]
theorem marks_v (i : Nat) : ((List.range 18).map fun j => V.bl (decide (i = j))) ++ ((List.range 16).map fun j => V.bl (decide (i = j + 18))) = (marksB i).map V.bl := by
  unfold marksB
  rw [List.map_append, List.map_map, List.map_map]
  rfl
theorem fam_v (i : Nat) : famL i = (famB i).map V.bl := rfl
theorem marks_same : ∀ i : Nat, i < 34 → PyData.eqv (.list ((marksB i).map .bool)) (.list ((kthB i).map .bool)) = true ∧ SeqAt.shaped (.list ((marksB i).map .bool)) = true ∧ SeqAt.shaped (.list ((kthB i).map .bool)) = true := by decide +kernel
theorem fam_same : ∀ i : Nat, i < 37 → PyData.eqv (.list ((famB i).map .bool)) (.list ((famB i).map .bool)) = true ∧ SeqAt.shaped (.list ((famB i).map .bool)) = true := by decide +kernel
theorem no_marks : ∀ i : Nat, i < 37 → 34 ≤ i → inV (.bl true) ((marksB i).map V.bl) = false ∧ ((marksB i).map V.bl).all flatV = true := by decide +kernel
theorem kth_v (i : Nat) : ((List.range 34).map fun (j : Nat) => V.bl (decide (V.int (0 + (j : Int)) = V.int (i : Int)))) = (kthB i).map V.bl := by
  unfold kthB
  rw [List.map_map]
  refine List.map_congr_left fun j _ => ?_
  show V.bl (decide (V.int (0 + (j : Int)) = V.int (i : Int))) = V.bl (decide (j = i))
  by_cases c : j = i
  · subst c
    rw [decide_eq_true (p := j = j) rfl, decide_eq_true (by rw [Int.zero_add])]
  · rw [decide_eq_false (p := j = i) c, decide_eq_false]
    intro z
    rw [Int.zero_add] at z
    injection z with z
    omega
theorem okX_int {z : Int} (h0 : 0 ≤ z) (h1 : z < 1000000000000000000000000000000) : okX (.int z) = true := by
  have lg : z.natAbs.log2 < 1920 := by
    have a : z.natAbs ≤ 1000000000000000000000000000000 := by omega
    by_cases c : z.natAbs = 0
    · rw [c]
      decide
    · rw [Nat.log2_lt c]
      exact Nat.lt_of_le_of_lt a (by decide +kernel)
  have l : (PyData.int z).shown.length ≤ 3000 := Nat.le_trans (PyProof.Rows.int_text_len_1921 lg) (by decide : 1921 ≤ 3000)
  unfold okX
  rw [Bool.and_eq_true, Bool.and_eq_true, decide_eq_true_eq, decide_eq_true_eq]
  exact ⟨⟨by simpa only [PyData.showable, decide_eq_true_eq] using lg, by simp only [PyData.depth]; omega⟩, l⟩
/-- both rows of them, one behind the other -/
theorem MadeL.both {K : PySem.W.Frag} {H : Hp} {A B : List V} {v : V} (ha : MadeL K H A 0 v) (hb : MadeL K H B 18 v) (la : A.length = 18) : MadeL K H (A ++ B) 0 v := fun i x e => by
  by_cases c : i < A.length
  · rw [List.getElem?_append_left c] at e
    exact ha i x e
  · rw [List.getElem?_append_right (by omega)] at e
    have := hb _ _ e
    rw [show 18 + (i - A.length) = 0 + i from by omega] at this
    exact this

theorem g_en {K : PySem.W.Frag} {ta : TA} {σ : L2.St} {H : Hp} {R : It → Hp → Prop} (q : ta σ H fun vs H1 => ∃ a xs, vs = [.ref a] ∧ SqL K H1 a xs ∧ R (Ite K a) H1) : iEnum K ta σ H R := q

theorem cA_of {K : PySem.W.Frag} {i : Nat} {nm : Str} {C : Addr} (h : ([Str.ofString "NoName", Str.ofString "NoWords", Str.ofString "NoSigns", Str.ofString "NoSign", Str.ofString "NoWord", Str.ofString "Beyond", Str.ofString "Unended", Str.ofString "NoTerm", Str.ofString "NoTerms", Str.ofString "NoLetter", Str.ofString "NoPairs", Str.ofString "NoPutting", Str.ofString "NoWay", Str.ofString "NoNumber", Str.ofString "NoTruth", Str.ofString "NoNote", Str.ofString "NoList", Str.ofString "NoAsk", Str.ofString "NoRule", Str.ofString "NoRules", Str.ofString "NoRow", Str.ofString "NoShelf", Str.ofString "NoDeed", Str.ofString "NoText", Str.ofString "NoLine", Str.ofString "Unlike", Str.ofString "Twice", Str.ofString "TooMany", Str.ofString "TooGreat", Str.ofString "NotThere", Str.ofString "NoSpot", Str.ofString "NoMore", Str.ofString "Changed", Str.ofString "Endless", Str.ofString "TermError", Str.ofString "Absent", Str.ofString "Ended"] : List Str).getD i "" = nm) (e : PySem.W.nsIn K mainGlobals nm = some (some (.ref C))) : cA K i = C := by
  unfold cA
  rw [h, e]
theorem fam_ge (i : Nat) : 34 ≤ fam i := by
  unfold fam
  split
  · omega
  · split
    · omega
    · split <;> omega
theorem fam_self {i : Nat} (h : 34 ≤ i) : fam i = i := by
  unfold fam
  rw [if_neg (by omega), if_neg (by omega), if_neg (by omega)]
section
variable {K : PySem.W.Frag} {f : Nat → Addr} {rows : List (Addr × List Value)}
theorem kin_or {i j : Nat} (hj : 34 ≤ j) : (decide (i = j) || decide (fam i = j)) = decide (fam i = j) := by
  by_cases c : i = j
  · subst c
    rw [fam_self hj, decide_eq_true rfl, Bool.true_or]
  · rw [decide_eq_false c, Bool.false_or]
theorem kit_own (cls : JgX.Cls K rows) (kin : JgX.kinTab fam rows = true) (row : ∀ i, i < 37 → ∃ bm, rows[i]? = some (f (100 + 2 * i), bm)) : ∀ i j, i < 37 → j < 34 → PySem.W.kitOne K (.ref (f (100 + 2 * i))) (.ref (f (100 + 2 * j))) = some (decide (i = j)) := by
  intro i j hi hj
  obtain ⟨b1, e1⟩ := row i hi
  obtain ⟨b2, e2⟩ := row j (by omega)
  rw [JgX.cls_kit cls kin e1 e2, decide_eq_false (p := fam i = j) (by have := fam_ge i; omega), Bool.or_false]
theorem kit_fam (cls : JgX.Cls K rows) (kin : JgX.kinTab fam rows = true) (row : ∀ i, i < 37 → ∃ bm, rows[i]? = some (f (100 + 2 * i), bm)) : ∀ i j, i < 37 → 34 ≤ j → j < 37 → PySem.W.kitOne K (.ref (f (100 + 2 * i))) (.ref (f (100 + 2 * j))) = some (decide (fam i = j)) := by
  intro i j hi h34 hj
  obtain ⟨b1, e1⟩ := row i hi
  obtain ⟨b2, e2⟩ := row j hj
  rw [JgX.cls_kit cls kin e1 e2, kin_or h34]
theorem kit_ty {T : String} {under : Nat → Bool} (cls : JgX.Cls K rows) (t : PySem.W.kitMeta T = true) (tab : JgX.tyTab T under rows = true) (row : ∀ i, i < 37 → ∃ bm, rows[i]? = some (f (100 + 2 * i), bm)) : ∀ i, i < 37 → PySem.W.kitOne K (.ref (f (100 + 2 * i))) (.type T) = some (under i) := by
  intro i hi
  obtain ⟨b1, e1⟩ := row i hi
  exact JgX.cls_ty cls t tab e1
theorem exm_fam (cls : JgX.Cls K rows) (kin : JgX.kinTab fam rows = true) (row : ∀ i, i < 37 → ∃ bm, rows[i]? = some (f (100 + 2 * i), bm)) (xa : ∀ i, i < 37 → JgX.XA K (f (100 + 2 * i))) :
    ∀ i j, 34 ≤ i → i < 37 → 34 ≤ j → j < 37 → PySem.W.exmOne K (.ref (f (100 + 2 * i))) (.ref (f (100 + 2 * j))) = some (decide (i = j)) := by
  intro i j h1 h2 h3 h4
  obtain ⟨b1, e1⟩ := row i h2
  obtain ⟨b2, e2⟩ := row j h4
  refine PySem.W.exm_ref (xa j h4).f.exC (xa j h4).f.hdC (cls j _ _ e2).ty ?_
  rw [(cls i _ _ e1).sub, JgX.kin_at kin e1 e2, kin_or h3, fam_self h1]
end

def sp_law_cell (K : PySem.W.Frag) : Sp := fun vs H Q E =>
  ∃ (a : Addr) (ns : List Int) (k : Nat), vs = [.ref a, .int (k : Int)] ∧ SqL K H a (ns.map V.int) ∧ k ≤ 63 ∧ ∀ z : Int, Q (.int z) H
def sp_law_bag (K : PySem.W.Frag) : Sp := fun vs H Q E =>
  ∃ (z : Int), vs = [.int z] ∧ ∀ p H', H p = none → Same H H' → Bg H' p 0 → Q (.ref p) H'
def sp_law_take (K : PySem.W.Frag) : Sp := fun vs H Q E =>
  ∃ (p : Addr) (m : Int) (n : Nat), vs = [.ref p, .int m] ∧ 0 < m ∧ m < 2 ^ 120 ∧ n ≤ 1000000 ∧ Bg H p n ∧ ∀ (z : Int) (H' : Hp), 0 ≤ z → z < m → Bg H' p (n + 1) → Mv p H H' → Q (.int z) H'
def sp_law_marks_first (K : PySem.W.Frag) : Sp := fun vs H Q E =>
  ∃ (v : V) (i : Nat), vs = [v] ∧ Exn K H v i ∧ ∀ D H', Same H H' → H' D = some (.lst ((List.range 18).map fun j => V.bl (decide (i = j)))) → Q (.ref D) H'
def sp_law_marks_last (K : PySem.W.Frag) : Sp := fun vs H Q E =>
  ∃ (v : V) (i : Nat), vs = [v] ∧ Exn K H v i ∧ ∀ D H', Same H H' → H' D = some (.lst ((List.range 16).map fun j => V.bl (decide (i = j + 18)))) → Q (.ref D) H'
def sp_law_families (K : PySem.W.Frag) : Sp := fun vs H Q E =>
  ∃ (v : V) (i : Nat), vs = [v] ∧ Exn K H v i ∧ ∀ D H', Same H H' → H' D = some (.lst (famL i)) → Q (.ref D) H'
def sp_law_family_of (K : PySem.W.Frag) : Sp := fun vs H Q E =>
  ∃ (i : Nat), vs = [.int (i : Int)] ∧ i < 34 ∧ ∀ D H', Same H H' → H' D = some (.lst (famL i)) → Q (.ref D) H'
def sp_law_made_first (K : PySem.W.Frag) : Sp := fun vs H Q E =>
  ∃ (v : V), vs = [v] ∧ ∀ D H' L, Same H H' → H' D = some (.lst L) → L.length = 18 → MadeL K H' L 0 v → Q (.ref D) H'
def sp_law_made_last (K : PySem.W.Frag) : Sp := fun vs H Q E =>
  ∃ (v : V), vs = [v] ∧ ∀ D H' L, Same H H' → H' D = some (.lst L) → L.length = 16 → MadeL K H' L 18 v → Q (.ref D) H'
def sp_law_any (K : PySem.W.Frag) : Sp := fun vs H Q E =>
  ∃ (p : Addr) (n : Nat), vs = [.ref p] ∧ n ≤ 999999 ∧ Bg H p n ∧ ∀ v H', OneV p H' v → (∃ d, Dx p H' v d) → Bg H' p (n + 1) → Mv p H H' → Q v H'
def sp_law_very (K : PySem.W.Frag) : Sp := fun vs H Q E =>
  ∃ (p : Addr) (v : V), vs = [v, v] ∧ OneV p H v ∧ Q (.bl true) H
def sp_law_fields_right (K : PySem.W.Frag) : Sp := fun vs H Q E =>
  ∃ (p : Addr) (v e : V) (i : Nat), vs = [.int (i : Int), e, v] ∧ i < 34 ∧ Made K H e i v ∧ OneV p H v ∧ Q (.bl true) H
def sp_law_taken (K : PySem.W.Frag) : Sp := fun vs H Q E =>
  ∃ (v : V) (i : Nat), vs = [v, .int (i : Int)] ∧ i < 34 ∧ Exn K H v i ∧ Q (.bl true) H
def sp_law_by_name_right (K : PySem.W.Frag) : Sp := fun vs H Q E =>
  ∃ (p : Addr) (v : V), vs = [v] ∧ OneV p H v ∧ ∀ H', Same H H' → Q (.bl true) H'
def sp_law_right (K : PySem.W.Frag) : Sp := fun vs H Q E =>
  ∃ (p : Addr) (n : Nat), vs = [.ref p] ∧ n ≤ 900000 ∧ Bg H p n ∧ ∀ H', Mv p H H' → Q (.bl true) H'
def sp_law (K : PySem.W.Frag) : Sp := fun vs H Q E =>
  ∃ (a : Addr) (ns : List Int), vs = [.ref a] ∧ SqL K H a (ns.map V.int) ∧ ns.length ≤ 63 ∧ ∀ H', Q (.bl true) H'
structure Txt (P : Program) (K : PySem.W.Frag) (mg : Str → Option Value) (f : Nat → Addr) (d : Nat → FuncData) : Prop where
  F_law_cell : Fun K "_law_cell" "_law_cell" s_law_cell (f 0) (d 0)
  m__law_cell : mg "_law_cell" = some (.ref (f 0))
  k__law_cell : PySem.W.keepIn K (.ref (f 0)) = true
  b__law_cell : Binds K (d 0) ["_law_script", "_law_k"] []
  F_law_bag : Fun K "_law_bag" "_law_bag" s_law_bag (f 1) (d 1)
  m__law_bag : mg "_law_bag" = some (.ref (f 1))
  k__law_bag : PySem.W.keepIn K (.ref (f 1)) = true
  b__law_bag : Binds K (d 1) ["_law_cell_here"] []
  F_law_take : Fun K "_law_take" "_law_take" s_law_take (f 2) (d 2)
  m__law_take : mg "_law_take" = some (.ref (f 2))
  k__law_take : PySem.W.keepIn K (.ref (f 2)) = true
  b__law_take : Binds K (d 2) ["_law_bag_here", "_law_much"] []
  F_law_marks_first : Fun K "_law_marks_first" "_law_marks_first" s_law_marks_first (f 3) (d 3)
  m__law_marks_first : mg "_law_marks_first" = some (.ref (f 3))
  k__law_marks_first : PySem.W.keepIn K (.ref (f 3)) = true
  b__law_marks_first : Binds K (d 3) ["_law_e"] []
  F_law_marks_last : Fun K "_law_marks_last" "_law_marks_last" s_law_marks_last (f 4) (d 4)
  m__law_marks_last : mg "_law_marks_last" = some (.ref (f 4))
  k__law_marks_last : PySem.W.keepIn K (.ref (f 4)) = true
  b__law_marks_last : Binds K (d 4) ["_law_e"] []
  F_law_families : Fun K "_law_families" "_law_families" s_law_families (f 5) (d 5)
  m__law_families : mg "_law_families" = some (.ref (f 5))
  k__law_families : PySem.W.keepIn K (.ref (f 5)) = true
  b__law_families : Binds K (d 5) ["_law_e"] []
  F_law_family_of : Fun K "_law_family_of" "_law_family_of" s_law_family_of (f 6) (d 6)
  m__law_family_of : mg "_law_family_of" = some (.ref (f 6))
  k__law_family_of : PySem.W.keepIn K (.ref (f 6)) = true
  b__law_family_of : Binds K (d 6) ["_law_place"] []
  F_law_made_first : Fun K "_law_made_first" "_law_made_first" s_law_made_first (f 7) (d 7)
  m__law_made_first : mg "_law_made_first" = some (.ref (f 7))
  k__law_made_first : PySem.W.keepIn K (.ref (f 7)) = true
  b__law_made_first : Binds K (d 7) ["_law_one"] []
  F_law_made_last : Fun K "_law_made_last" "_law_made_last" s_law_made_last (f 8) (d 8)
  m__law_made_last : mg "_law_made_last" = some (.ref (f 8))
  k__law_made_last : PySem.W.keepIn K (.ref (f 8)) = true
  b__law_made_last : Binds K (d 8) ["_law_one"] []
  F_law_any : Fun K "_law_any" "_law_any" s_law_any (f 9) (d 9)
  m__law_any : mg "_law_any" = some (.ref (f 9))
  k__law_any : PySem.W.keepIn K (.ref (f 9)) = true
  b__law_any : Binds K (d 9) ["_law_bag_here"] []
  F_law_very : Fun K "_law_very" "_law_very" s_law_very (f 10) (d 10)
  m__law_very : mg "_law_very" = some (.ref (f 10))
  k__law_very : PySem.W.keepIn K (.ref (f 10)) = true
  b__law_very : Binds K (d 10) ["_law_gained", "_law_thing"] []
  F_law_fields_right : Fun K "_law_fields_right" "_law_fields_right" s_law_fields_right (f 11) (d 11)
  m__law_fields_right : mg "_law_fields_right" = some (.ref (f 11))
  k__law_fields_right : PySem.W.keepIn K (.ref (f 11)) = true
  b__law_fields_right : Binds K (d 11) ["_law_place", "_law_e", "_law_one"] []
  F_law_taken : Fun K "_law_taken" "_law_taken" s_law_taken (f 12) (d 12)
  m__law_taken : mg "_law_taken" = some (.ref (f 12))
  k__law_taken : PySem.W.keepIn K (.ref (f 12)) = true
  b__law_taken : Binds K (d 12) ["_law_e", "_law_place"] []
  F_law_by_name_right : Fun K "_law_by_name_right" "_law_by_name_right" s_law_by_name_right (f 13) (d 13)
  m__law_by_name_right : mg "_law_by_name_right" = some (.ref (f 13))
  k__law_by_name_right : PySem.W.keepIn K (.ref (f 13)) = true
  b__law_by_name_right : Binds K (d 13) ["_law_one"] []
  F_law_right : Fun K "_law_right" "_law_right" s_law_right (f 14) (d 14)
  m__law_right : mg "_law_right" = some (.ref (f 14))
  k__law_right : PySem.W.keepIn K (.ref (f 14)) = true
  b__law_right : Binds K (d 14) ["_law_bag_here"] []
  F_law : Fun K "law" "law" s_law (f 15) (d 15)
  m_law : mg "law" = some (.ref (f 15))
  k_law : PySem.W.keepIn K (.ref (f 15)) = true
  b_law : Binds K (d 15) ["_law_script"] []
  q_NoName : JgX.CT P K mg (f 100) (f 101) (d 100) "NoName" "NoName.__init__" "found" "ValueError" "ValueError.__new__" "ValueError.__init__" [.type "ValueError", .type "Exception", .type "BaseException", .type "object"] xs_NoName
  q_NoWords : JgX.CT P K mg (f 102) (f 103) (d 102) "NoWords" "NoWords.__init__" "found" "ValueError" "ValueError.__new__" "ValueError.__init__" [.type "ValueError", .type "Exception", .type "BaseException", .type "object"] xs_NoWords
  q_NoSigns : JgX.CT P K mg (f 104) (f 105) (d 104) "NoSigns" "NoSigns.__init__" "found" "ValueError" "ValueError.__new__" "ValueError.__init__" [.type "ValueError", .type "Exception", .type "BaseException", .type "object"] xs_NoSigns
  q_NoSign : JgX.CT P K mg (f 106) (f 107) (d 106) "NoSign" "NoSign.__init__" "at" "ValueError" "ValueError.__new__" "ValueError.__init__" [.type "ValueError", .type "Exception", .type "BaseException", .type "object"] xs_NoSign
  q_NoWord : JgX.CT P K mg (f 108) (f 109) (d 108) "NoWord" "NoWord.__init__" "found" "ValueError" "ValueError.__new__" "ValueError.__init__" [.type "ValueError", .type "Exception", .type "BaseException", .type "object"] xs_NoWord
  q_Beyond : JgX.CT P K mg (f 110) (f 111) (d 110) "Beyond" "Beyond.__init__" "at" "ValueError" "ValueError.__new__" "ValueError.__init__" [.type "ValueError", .type "Exception", .type "BaseException", .type "object"] xs_Beyond
  q_Unended : JgX.CT P K mg (f 112) (f 113) (d 112) "Unended" "Unended.__init__" "many" "ValueError" "ValueError.__new__" "ValueError.__init__" [.type "ValueError", .type "Exception", .type "BaseException", .type "object"] xs_Unended
  q_NoTerm : JgX.CT P K mg (f 114) (f 115) (d 114) "NoTerm" "NoTerm.__init__" "found" "ValueError" "ValueError.__new__" "ValueError.__init__" [.type "ValueError", .type "Exception", .type "BaseException", .type "object"] xs_NoTerm
  q_NoTerms : JgX.CT P K mg (f 116) (f 117) (d 116) "NoTerms" "NoTerms.__init__" "found" "ValueError" "ValueError.__new__" "ValueError.__init__" [.type "ValueError", .type "Exception", .type "BaseException", .type "object"] xs_NoTerms
  q_NoLetter : JgX.CT P K mg (f 118) (f 119) (d 118) "NoLetter" "NoLetter.__init__" "found" "ValueError" "ValueError.__new__" "ValueError.__init__" [.type "ValueError", .type "Exception", .type "BaseException", .type "object"] xs_NoLetter
  q_NoPairs : JgX.CT P K mg (f 120) (f 121) (d 120) "NoPairs" "NoPairs.__init__" "found" "ValueError" "ValueError.__new__" "ValueError.__init__" [.type "ValueError", .type "Exception", .type "BaseException", .type "object"] xs_NoPairs
  q_NoPutting : JgX.CT P K mg (f 122) (f 123) (d 122) "NoPutting" "NoPutting.__init__" "found" "ValueError" "ValueError.__new__" "ValueError.__init__" [.type "ValueError", .type "Exception", .type "BaseException", .type "object"] xs_NoPutting
  q_NoWay : JgX.CT P K mg (f 124) (f 125) (d 124) "NoWay" "NoWay.__init__" "found" "ValueError" "ValueError.__new__" "ValueError.__init__" [.type "ValueError", .type "Exception", .type "BaseException", .type "object"] xs_NoWay
  q_NoNumber : JgX.CT P K mg (f 126) (f 127) (d 126) "NoNumber" "NoNumber.__init__" "found" "ValueError" "ValueError.__new__" "ValueError.__init__" [.type "ValueError", .type "Exception", .type "BaseException", .type "object"] xs_NoNumber
  q_NoTruth : JgX.CT P K mg (f 128) (f 129) (d 128) "NoTruth" "NoTruth.__init__" "found" "ValueError" "ValueError.__new__" "ValueError.__init__" [.type "ValueError", .type "Exception", .type "BaseException", .type "object"] xs_NoTruth
  q_NoNote : JgX.CT P K mg (f 130) (f 131) (d 130) "NoNote" "NoNote.__init__" "found" "ValueError" "ValueError.__new__" "ValueError.__init__" [.type "ValueError", .type "Exception", .type "BaseException", .type "object"] xs_NoNote
  q_NoList : JgX.CT P K mg (f 132) (f 133) (d 132) "NoList" "NoList.__init__" "found" "ValueError" "ValueError.__new__" "ValueError.__init__" [.type "ValueError", .type "Exception", .type "BaseException", .type "object"] xs_NoList
  q_NoAsk : JgX.CT P K mg (f 134) (f 135) (d 134) "NoAsk" "NoAsk.__init__" "found" "ValueError" "ValueError.__new__" "ValueError.__init__" [.type "ValueError", .type "Exception", .type "BaseException", .type "object"] xs_NoAsk
  q_NoRule : JgX.CT P K mg (f 136) (f 137) (d 136) "NoRule" "NoRule.__init__" "found" "ValueError" "ValueError.__new__" "ValueError.__init__" [.type "ValueError", .type "Exception", .type "BaseException", .type "object"] xs_NoRule
  q_NoRules : JgX.CT P K mg (f 138) (f 139) (d 138) "NoRules" "NoRules.__init__" "found" "ValueError" "ValueError.__new__" "ValueError.__init__" [.type "ValueError", .type "Exception", .type "BaseException", .type "object"] xs_NoRules
  q_NoRow : JgX.CT P K mg (f 140) (f 141) (d 140) "NoRow" "NoRow.__init__" "found" "ValueError" "ValueError.__new__" "ValueError.__init__" [.type "ValueError", .type "Exception", .type "BaseException", .type "object"] xs_NoRow
  q_NoShelf : JgX.CT P K mg (f 142) (f 143) (d 142) "NoShelf" "NoShelf.__init__" "found" "ValueError" "ValueError.__new__" "ValueError.__init__" [.type "ValueError", .type "Exception", .type "BaseException", .type "object"] xs_NoShelf
  q_NoDeed : JgX.CT P K mg (f 144) (f 145) (d 144) "NoDeed" "NoDeed.__init__" "at" "ValueError" "ValueError.__new__" "ValueError.__init__" [.type "ValueError", .type "Exception", .type "BaseException", .type "object"] xs_NoDeed
  q_NoText : JgX.CT P K mg (f 146) (f 147) (d 146) "NoText" "NoText.__init__" "row" "ValueError" "ValueError.__new__" "ValueError.__init__" [.type "ValueError", .type "Exception", .type "BaseException", .type "object"] xs_NoText
  q_NoLine : JgX.CT P K mg (f 148) (f 149) (d 148) "NoLine" "NoLine.__init__" "found" "ValueError" "ValueError.__new__" "ValueError.__init__" [.type "ValueError", .type "Exception", .type "BaseException", .type "object"] xs_NoLine
  q_Unlike : JgX.CT P K mg (f 150) (f 151) (d 150) "Unlike" "Unlike.__init__" "found" "ValueError" "ValueError.__new__" "ValueError.__init__" [.type "ValueError", .type "Exception", .type "BaseException", .type "object"] xs_Unlike
  q_Twice : JgX.CT P K mg (f 152) (f 153) (d 152) "Twice" "Twice.__init__" "found" "ValueError" "ValueError.__new__" "ValueError.__init__" [.type "ValueError", .type "Exception", .type "BaseException", .type "object"] xs_Twice
  q_TooMany : JgX.CT P K mg (f 154) (f 155) (d 154) "TooMany" "TooMany.__init__" "many" "ValueError" "ValueError.__new__" "ValueError.__init__" [.type "ValueError", .type "Exception", .type "BaseException", .type "object"] xs_TooMany
  q_TooGreat : JgX.CT P K mg (f 156) (f 157) (d 156) "TooGreat" "TooGreat.__init__" "many" "ValueError" "ValueError.__new__" "ValueError.__init__" [.type "ValueError", .type "Exception", .type "BaseException", .type "object"] xs_TooGreat
  q_NotThere : JgX.CT P K mg (f 158) (f 159) (d 158) "NotThere" "NotThere.__init__" "found" "KeyError" "LookupError.__new__" "KeyError.__init__" [.type "KeyError", .type "LookupError", .type "Exception", .type "BaseException", .type "object"] xs_NotThere
  q_NoSpot : JgX.CT P K mg (f 160) (f 161) (d 160) "NoSpot" "NoSpot.__init__" "found" "KeyError" "LookupError.__new__" "KeyError.__init__" [.type "KeyError", .type "LookupError", .type "Exception", .type "BaseException", .type "object"] xs_NoSpot
  q_NoMore : JgX.CT P K mg (f 162) (f 163) (d 162) "NoMore" "NoMore.__init__" "found" "LookupError" "LookupError.__new__" "LookupError.__init__" [.type "LookupError", .type "Exception", .type "BaseException", .type "object"] xs_NoMore
  q_Changed : JgX.CT P K mg (f 164) (f 165) (d 164) "Changed" "Changed.__init__" "many" "LookupError" "LookupError.__new__" "LookupError.__init__" [.type "LookupError", .type "Exception", .type "BaseException", .type "object"] xs_Changed
  q_Endless : JgX.CT P K mg (f 166) (f 167) (d 166) "Endless" "Endless.__init__" "many" "LookupError" "LookupError.__new__" "LookupError.__init__" [.type "LookupError", .type "Exception", .type "BaseException", .type "object"] xs_Endless
  p_TermError : JgX.Plain K (f 168) "ValueError" "ValueError.__new__" "ValueError.__init__" [.type "ValueError", .type "Exception", .type "BaseException", .type "object"]
  c_TermError : mg "TermError" = some (.ref (f 168))
  u_TermError : JgX.XA K (f 168)
  t_TermError : PySem.W.typeIn K (.ref (f 168)) = some (.type "type")
  p_Absent : JgX.Plain K (f 170) "KeyError" "LookupError.__new__" "KeyError.__init__" [.type "KeyError", .type "LookupError", .type "Exception", .type "BaseException", .type "object"]
  c_Absent : mg "Absent" = some (.ref (f 170))
  u_Absent : JgX.XA K (f 170)
  t_Absent : PySem.W.typeIn K (.ref (f 170)) = some (.type "type")
  p_Ended : JgX.Plain K (f 172) "LookupError" "LookupError.__new__" "LookupError.__init__" [.type "LookupError", .type "Exception", .type "BaseException", .type "object"]
  c_Ended : mg "Ended" = some (.ref (f 172))
  u_Ended : JgX.XA K (f 172)
  t_Ended : PySem.W.typeIn K (.ref (f 172)) = some (.type "type")
  z_super : mg "super" = none
  opq : PySem.W.nsIn K cStatics "thirdparty.any" = some none
  tp : (P.main.scope.names.lookup ("super" : Str)).isSome = false
  z_KeyError : mg "KeyError" = none
  z_LookupError : mg "LookupError" = none
  z_ValueError : mg "ValueError" = none
  z_enumerate : mg "enumerate" = none
  z_isinstance : mg "isinstance" = none
  z_len : mg "len" = none
  z_list : mg "list" = none
  z_max : mg "max" = none
  z_min : mg "min" = none
  z_range : mg "range" = none
  z_repr : mg "repr" = none
  ca : ∀ i, i < 37 → cA K i = f (100 + 2 * i)
  nb : PySem.W.nsIn K cStatics sharingNotToldKey = some none
  xa : ∀ i, i < 37 → JgX.XA K (f (100 + 2 * i))
  kit : ∀ i j, i < 37 → j < 34 → PySem.W.kitOne K (.ref (f (100 + 2 * i))) (.ref (f (100 + 2 * j))) = some (decide (i = j))
  kfm : ∀ i j, i < 37 → 34 ≤ j → j < 37 → PySem.W.kitOne K (.ref (f (100 + 2 * i))) (.ref (f (100 + 2 * j))) = some (decide (fam i = j))
  ktV : ∀ i, i < 37 → PySem.W.kitOne K (.ref (f (100 + 2 * i))) (.type "ValueError") = some (decide (fam i = 34))
  ktK : ∀ i, i < 37 → PySem.W.kitOne K (.ref (f (100 + 2 * i))) (.type "KeyError") = some (decide (fam i = 35))
  ktL : ∀ i, i < 37 → PySem.W.kitOne K (.ref (f (100 + 2 * i))) (.type "LookupError") = some (decide (fam i = 35) || decide (fam i = 36))
  exm : ∀ i j, 34 ≤ i → i < 37 → 34 ≤ j → j < 37 → PySem.W.exmOne K (.ref (f (100 + 2 * i))) (.ref (f (100 + 2 * j))) = some (decide (i = j))
section
variable {P : Program} {w : World} {K : PySem.W.Frag} {mg : Str → Option Value} {base : Heap} {f : Nat → Addr} {d : Nat → FuncData}
open JgX
theorem nfd (T : Txt P K mg f d) : ∀ i, i < 34 → i ≠ 31 → PySem.W.findIn K (.ref (f (100 + 2 * i))) (fldOf i) = some none := by
  intro i h n
  match i, h, n with
  | 0, _, _ => exact T.q_NoName.n
  | 1, _, _ => exact T.q_NoWords.n
  | 2, _, _ => exact T.q_NoSigns.n
  | 3, _, _ => exact T.q_NoSign.n
  | 4, _, _ => exact T.q_NoWord.n
  | 5, _, _ => exact T.q_Beyond.n
  | 6, _, _ => exact T.q_Unended.n
  | 7, _, _ => exact T.q_NoTerm.n
  | 8, _, _ => exact T.q_NoTerms.n
  | 9, _, _ => exact T.q_NoLetter.n
  | 10, _, _ => exact T.q_NoPairs.n
  | 11, _, _ => exact T.q_NoPutting.n
  | 12, _, _ => exact T.q_NoWay.n
  | 13, _, _ => exact T.q_NoNumber.n
  | 14, _, _ => exact T.q_NoTruth.n
  | 15, _, _ => exact T.q_NoNote.n
  | 16, _, _ => exact T.q_NoList.n
  | 17, _, _ => exact T.q_NoAsk.n
  | 18, _, _ => exact T.q_NoRule.n
  | 19, _, _ => exact T.q_NoRules.n
  | 20, _, _ => exact T.q_NoRow.n
  | 21, _, _ => exact T.q_NoShelf.n
  | 22, _, _ => exact T.q_NoDeed.n
  | 23, _, _ => exact T.q_NoText.n
  | 24, _, _ => exact T.q_NoLine.n
  | 25, _, _ => exact T.q_Unlike.n
  | 26, _, _ => exact T.q_Twice.n
  | 27, _, _ => exact T.q_TooMany.n
  | 28, _, _ => exact T.q_TooGreat.n
  | 29, _, _ => exact T.q_NotThere.n
  | 30, _, _ => exact T.q_NoSpot.n
  | 31, _, n => exact absurd rfl n
  | 32, _, _ => exact T.q_Changed.n
  | 33, _, _ => exact T.q_Endless.n
  | i + 34, h, _ => exact absurd h (by omega)
theorem fld (T : Txt P K mg f d) {H : Hp} {x v : V} {i : Nat} {fl : Str} (m : Made K H x i v) (hi : i < 34) (n : i ≠ 31) (hf : fldOf i = fl) :
    ∃ (a C : Addr) (z : Str) (fs : List (Str × V)), x = .ref a ∧ KxF H a C z fs ∧ XfC K C ∧ PySem.W.findIn K (.ref C) fl = some none ∧ fs.lookup fl = some v := by
  subst hf
  obtain ⟨a, rfl, ⟨e, _⟩ | ⟨_, z, h⟩⟩ := m
  · exact absurd e n
  · rw [T.ca i (by omega)] at h
    exact ⟨a, _, z, _, rfl, h, (T.xa i (by omega)).f, nfd T i hi n, by simp [List.lookup]⟩
end
theorem ob_eq (s : PySem.W.SharedT) : ob s = hk.obs s.abs := JgHd.obsT_eq LO HI fx ad vsx s
theorem fx_at {K : PySem.W.Frag} (c : JgHd.obsJ fx ad K = (true, vsx)) : fx K = true := JgHd.says_fx c
theorem fxc_0 {K : PySem.W.Frag} (c : JgHd.obsJ fx ad K = (true, vsx)) : fx0 K = true := JgHd.all_at (fx_at c) 0
theorem fxc_1 {K : PySem.W.Frag} (c : JgHd.obsJ fx ad K = (true, vsx)) : fx1 K = true := JgHd.all_at (fx_at c) 1
theorem fxc_2 {K : PySem.W.Frag} (c : JgHd.obsJ fx ad K = (true, vsx)) : fx2 K = true := JgHd.all_at (fx_at c) 2
theorem fxc_3 {K : PySem.W.Frag} (c : JgHd.obsJ fx ad K = (true, vsx)) : fx3 K = true := JgHd.all_at (fx_at c) 3
theorem fxc_4 {K : PySem.W.Frag} (c : JgHd.obsJ fx ad K = (true, vsx)) : fx4 K = true := JgHd.all_at (fx_at c) 4
theorem fxc_5 {K : PySem.W.Frag} (c : JgHd.obsJ fx ad K = (true, vsx)) : fx5 K = true := JgHd.all_at (fx_at c) 5
theorem fa_0 {K : PySem.W.Frag} (c : JgHd.obsJ fx ad K = (true, vsx)) : (JgHd.gloB K "_law_cell") = true := JgHd.all_at (fxc_0 c) 0
theorem fa_1 {K : PySem.W.Frag} (c : JgHd.obsJ fx ad K = (true, vsx)) : (JgHd.funB K (He.ga K "_law_cell") "_law_cell" [] []) = true := JgHd.all_at (fxc_0 c) 1
theorem fa_2 {K : PySem.W.Frag} (c : JgHd.obsJ fx ad K = (true, vsx)) : (JgHd.gloB K "_law_bag") = true := JgHd.all_at (fxc_0 c) 2
theorem fa_3 {K : PySem.W.Frag} (c : JgHd.obsJ fx ad K = (true, vsx)) : (JgHd.funB K (He.ga K "_law_bag") "_law_bag" [] []) = true := JgHd.all_at (fxc_0 c) 3
theorem fa_4 {K : PySem.W.Frag} (c : JgHd.obsJ fx ad K = (true, vsx)) : (JgHd.gloB K "_law_take") = true := JgHd.all_at (fxc_0 c) 4
theorem fa_5 {K : PySem.W.Frag} (c : JgHd.obsJ fx ad K = (true, vsx)) : (JgHd.funB K (He.ga K "_law_take") "_law_take" [] []) = true := JgHd.all_at (fxc_0 c) 5
theorem fa_6 {K : PySem.W.Frag} (c : JgHd.obsJ fx ad K = (true, vsx)) : (JgHd.gloB K "_law_marks_first") = true := JgHd.all_at (fxc_0 c) 6
theorem fa_7 {K : PySem.W.Frag} (c : JgHd.obsJ fx ad K = (true, vsx)) : (JgHd.funB K (He.ga K "_law_marks_first") "_law_marks_first" [] []) = true := JgHd.all_at (fxc_0 c) 7
theorem fa_8 {K : PySem.W.Frag} (c : JgHd.obsJ fx ad K = (true, vsx)) : (JgHd.gloB K "_law_marks_last") = true := JgHd.all_at (fxc_0 c) 8
theorem fa_9 {K : PySem.W.Frag} (c : JgHd.obsJ fx ad K = (true, vsx)) : (JgHd.funB K (He.ga K "_law_marks_last") "_law_marks_last" [] []) = true := JgHd.all_at (fxc_0 c) 9
theorem fa_10 {K : PySem.W.Frag} (c : JgHd.obsJ fx ad K = (true, vsx)) : (JgHd.gloB K "_law_families") = true := JgHd.all_at (fxc_0 c) 10
theorem fa_11 {K : PySem.W.Frag} (c : JgHd.obsJ fx ad K = (true, vsx)) : (JgHd.funB K (He.ga K "_law_families") "_law_families" [] []) = true := JgHd.all_at (fxc_0 c) 11
theorem fa_12 {K : PySem.W.Frag} (c : JgHd.obsJ fx ad K = (true, vsx)) : (JgHd.gloB K "_law_family_of") = true := JgHd.all_at (fxc_0 c) 12
theorem fa_13 {K : PySem.W.Frag} (c : JgHd.obsJ fx ad K = (true, vsx)) : (JgHd.funB K (He.ga K "_law_family_of") "_law_family_of" [] []) = true := JgHd.all_at (fxc_0 c) 13
theorem fa_14 {K : PySem.W.Frag} (c : JgHd.obsJ fx ad K = (true, vsx)) : (JgHd.gloB K "_law_made_first") = true := JgHd.all_at (fxc_0 c) 14
theorem fa_15 {K : PySem.W.Frag} (c : JgHd.obsJ fx ad K = (true, vsx)) : (JgHd.funB K (He.ga K "_law_made_first") "_law_made_first" [] []) = true := JgHd.all_at (fxc_0 c) 15
theorem fa_16 {K : PySem.W.Frag} (c : JgHd.obsJ fx ad K = (true, vsx)) : (JgHd.gloB K "_law_made_last") = true := JgHd.all_at (fxc_1 c) 0
theorem fa_17 {K : PySem.W.Frag} (c : JgHd.obsJ fx ad K = (true, vsx)) : (JgHd.funB K (He.ga K "_law_made_last") "_law_made_last" [] []) = true := JgHd.all_at (fxc_1 c) 1
theorem fa_18 {K : PySem.W.Frag} (c : JgHd.obsJ fx ad K = (true, vsx)) : (JgHd.gloB K "_law_any") = true := JgHd.all_at (fxc_1 c) 2
theorem fa_19 {K : PySem.W.Frag} (c : JgHd.obsJ fx ad K = (true, vsx)) : (JgHd.funB K (He.ga K "_law_any") "_law_any" [] []) = true := JgHd.all_at (fxc_1 c) 3
theorem fa_20 {K : PySem.W.Frag} (c : JgHd.obsJ fx ad K = (true, vsx)) : (JgHd.gloB K "_law_very") = true := JgHd.all_at (fxc_1 c) 4
theorem fa_21 {K : PySem.W.Frag} (c : JgHd.obsJ fx ad K = (true, vsx)) : (JgHd.funB K (He.ga K "_law_very") "_law_very" [] []) = true := JgHd.all_at (fxc_1 c) 5
theorem fa_22 {K : PySem.W.Frag} (c : JgHd.obsJ fx ad K = (true, vsx)) : (JgHd.gloB K "_law_fields_right") = true := JgHd.all_at (fxc_1 c) 6
theorem fa_23 {K : PySem.W.Frag} (c : JgHd.obsJ fx ad K = (true, vsx)) : (JgHd.funB K (He.ga K "_law_fields_right") "_law_fields_right" [] []) = true := JgHd.all_at (fxc_1 c) 7
theorem fa_24 {K : PySem.W.Frag} (c : JgHd.obsJ fx ad K = (true, vsx)) : (JgHd.gloB K "_law_taken") = true := JgHd.all_at (fxc_1 c) 8
theorem fa_25 {K : PySem.W.Frag} (c : JgHd.obsJ fx ad K = (true, vsx)) : (JgHd.funB K (He.ga K "_law_taken") "_law_taken" [] []) = true := JgHd.all_at (fxc_1 c) 9
theorem fa_26 {K : PySem.W.Frag} (c : JgHd.obsJ fx ad K = (true, vsx)) : (JgHd.gloB K "_law_by_name_right") = true := JgHd.all_at (fxc_1 c) 10
theorem fa_27 {K : PySem.W.Frag} (c : JgHd.obsJ fx ad K = (true, vsx)) : (JgHd.funB K (He.ga K "_law_by_name_right") "_law_by_name_right" [] []) = true := JgHd.all_at (fxc_1 c) 11
theorem fa_28 {K : PySem.W.Frag} (c : JgHd.obsJ fx ad K = (true, vsx)) : (JgHd.gloB K "_law_right") = true := JgHd.all_at (fxc_1 c) 12
theorem fa_29 {K : PySem.W.Frag} (c : JgHd.obsJ fx ad K = (true, vsx)) : (JgHd.funB K (He.ga K "_law_right") "_law_right" [] []) = true := JgHd.all_at (fxc_1 c) 13
theorem fa_30 {K : PySem.W.Frag} (c : JgHd.obsJ fx ad K = (true, vsx)) : (JgHd.gloB K "law") = true := JgHd.all_at (fxc_1 c) 14
theorem fa_31 {K : PySem.W.Frag} (c : JgHd.obsJ fx ad K = (true, vsx)) : (JgHd.funB K (He.ga K "law") "law" [] []) = true := JgHd.all_at (fxc_1 c) 15
theorem fa_32 {K : PySem.W.Frag} (c : JgHd.obsJ fx ad K = (true, vsx)) : (JgHd.freeB K "KeyError") = true := JgHd.all_at (fxc_2 c) 0
theorem fa_33 {K : PySem.W.Frag} (c : JgHd.obsJ fx ad K = (true, vsx)) : (JgHd.freeB K "LookupError") = true := JgHd.all_at (fxc_2 c) 1
theorem fa_34 {K : PySem.W.Frag} (c : JgHd.obsJ fx ad K = (true, vsx)) : (JgHd.freeB K "ValueError") = true := JgHd.all_at (fxc_2 c) 2
theorem fa_35 {K : PySem.W.Frag} (c : JgHd.obsJ fx ad K = (true, vsx)) : (JgHd.freeB K "enumerate") = true := JgHd.all_at (fxc_2 c) 3
theorem fa_36 {K : PySem.W.Frag} (c : JgHd.obsJ fx ad K = (true, vsx)) : (JgHd.freeB K "isinstance") = true := JgHd.all_at (fxc_2 c) 4
theorem fa_37 {K : PySem.W.Frag} (c : JgHd.obsJ fx ad K = (true, vsx)) : (JgHd.freeB K "len") = true := JgHd.all_at (fxc_2 c) 5
theorem fa_38 {K : PySem.W.Frag} (c : JgHd.obsJ fx ad K = (true, vsx)) : (JgHd.freeB K "list") = true := JgHd.all_at (fxc_2 c) 6
theorem fa_39 {K : PySem.W.Frag} (c : JgHd.obsJ fx ad K = (true, vsx)) : (JgHd.freeB K "max") = true := JgHd.all_at (fxc_2 c) 7
theorem fa_40 {K : PySem.W.Frag} (c : JgHd.obsJ fx ad K = (true, vsx)) : (JgHd.freeB K "min") = true := JgHd.all_at (fxc_2 c) 8
theorem fa_41 {K : PySem.W.Frag} (c : JgHd.obsJ fx ad K = (true, vsx)) : (JgHd.freeB K "range") = true := JgHd.all_at (fxc_2 c) 9
theorem fa_42 {K : PySem.W.Frag} (c : JgHd.obsJ fx ad K = (true, vsx)) : (JgHd.freeB K "repr") = true := JgHd.all_at (fxc_2 c) 10
theorem fa_43 {K : PySem.W.Frag} (c : JgHd.obsJ fx ad K = (true, vsx)) : (JgHd.isB (PySem.W.nsIn K cStatics sharingNotToldKey) (some none)) = true := JgHd.all_at (fxc_2 c) 11
theorem fa_44 {K : PySem.W.Frag} (c : JgHd.obsJ fx ad K = (true, vsx)) : (JgHd.takB K) = true := JgHd.all_at (fxc_2 c) 12
theorem fa_45 {K : PySem.W.Frag} (c : JgHd.obsJ fx ad K = (true, vsx)) : (JgHd.ctB K "NoName" "ValueError.__new__" "ValueError.__init__" "ValueError" [.type "ValueError", .type "Exception", .type "BaseException", .type "object"] "found" "NoName.__init__" FILE) = true := JgHd.all_at (fxc_2 c) 13
theorem fa_46 {K : PySem.W.Frag} (c : JgHd.obsJ fx ad K = (true, vsx)) : (JgHd.ctB K "NoWords" "ValueError.__new__" "ValueError.__init__" "ValueError" [.type "ValueError", .type "Exception", .type "BaseException", .type "object"] "found" "NoWords.__init__" FILE) = true := JgHd.all_at (fxc_2 c) 14
theorem fa_47 {K : PySem.W.Frag} (c : JgHd.obsJ fx ad K = (true, vsx)) : (JgHd.ctB K "NoSigns" "ValueError.__new__" "ValueError.__init__" "ValueError" [.type "ValueError", .type "Exception", .type "BaseException", .type "object"] "found" "NoSigns.__init__" FILE) = true := JgHd.all_at (fxc_2 c) 15
theorem fa_48 {K : PySem.W.Frag} (c : JgHd.obsJ fx ad K = (true, vsx)) : (JgHd.ctB K "NoSign" "ValueError.__new__" "ValueError.__init__" "ValueError" [.type "ValueError", .type "Exception", .type "BaseException", .type "object"] "at" "NoSign.__init__" FILE) = true := JgHd.all_at (fxc_3 c) 0
theorem fa_49 {K : PySem.W.Frag} (c : JgHd.obsJ fx ad K = (true, vsx)) : (JgHd.ctB K "NoWord" "ValueError.__new__" "ValueError.__init__" "ValueError" [.type "ValueError", .type "Exception", .type "BaseException", .type "object"] "found" "NoWord.__init__" FILE) = true := JgHd.all_at (fxc_3 c) 1
theorem fa_50 {K : PySem.W.Frag} (c : JgHd.obsJ fx ad K = (true, vsx)) : (JgHd.ctB K "Beyond" "ValueError.__new__" "ValueError.__init__" "ValueError" [.type "ValueError", .type "Exception", .type "BaseException", .type "object"] "at" "Beyond.__init__" FILE) = true := JgHd.all_at (fxc_3 c) 2
theorem fa_51 {K : PySem.W.Frag} (c : JgHd.obsJ fx ad K = (true, vsx)) : (JgHd.ctB K "Unended" "ValueError.__new__" "ValueError.__init__" "ValueError" [.type "ValueError", .type "Exception", .type "BaseException", .type "object"] "many" "Unended.__init__" FILE) = true := JgHd.all_at (fxc_3 c) 3
theorem fa_52 {K : PySem.W.Frag} (c : JgHd.obsJ fx ad K = (true, vsx)) : (JgHd.ctB K "NoTerm" "ValueError.__new__" "ValueError.__init__" "ValueError" [.type "ValueError", .type "Exception", .type "BaseException", .type "object"] "found" "NoTerm.__init__" FILE) = true := JgHd.all_at (fxc_3 c) 4
theorem fa_53 {K : PySem.W.Frag} (c : JgHd.obsJ fx ad K = (true, vsx)) : (JgHd.ctB K "NoTerms" "ValueError.__new__" "ValueError.__init__" "ValueError" [.type "ValueError", .type "Exception", .type "BaseException", .type "object"] "found" "NoTerms.__init__" FILE) = true := JgHd.all_at (fxc_3 c) 5
theorem fa_54 {K : PySem.W.Frag} (c : JgHd.obsJ fx ad K = (true, vsx)) : (JgHd.ctB K "NoLetter" "ValueError.__new__" "ValueError.__init__" "ValueError" [.type "ValueError", .type "Exception", .type "BaseException", .type "object"] "found" "NoLetter.__init__" FILE) = true := JgHd.all_at (fxc_3 c) 6
theorem fa_55 {K : PySem.W.Frag} (c : JgHd.obsJ fx ad K = (true, vsx)) : (JgHd.ctB K "NoPairs" "ValueError.__new__" "ValueError.__init__" "ValueError" [.type "ValueError", .type "Exception", .type "BaseException", .type "object"] "found" "NoPairs.__init__" FILE) = true := JgHd.all_at (fxc_3 c) 7
theorem fa_56 {K : PySem.W.Frag} (c : JgHd.obsJ fx ad K = (true, vsx)) : (JgHd.ctB K "NoPutting" "ValueError.__new__" "ValueError.__init__" "ValueError" [.type "ValueError", .type "Exception", .type "BaseException", .type "object"] "found" "NoPutting.__init__" FILE) = true := JgHd.all_at (fxc_3 c) 8
theorem fa_57 {K : PySem.W.Frag} (c : JgHd.obsJ fx ad K = (true, vsx)) : (JgHd.ctB K "NoWay" "ValueError.__new__" "ValueError.__init__" "ValueError" [.type "ValueError", .type "Exception", .type "BaseException", .type "object"] "found" "NoWay.__init__" FILE) = true := JgHd.all_at (fxc_3 c) 9
theorem fa_58 {K : PySem.W.Frag} (c : JgHd.obsJ fx ad K = (true, vsx)) : (JgHd.ctB K "NoNumber" "ValueError.__new__" "ValueError.__init__" "ValueError" [.type "ValueError", .type "Exception", .type "BaseException", .type "object"] "found" "NoNumber.__init__" FILE) = true := JgHd.all_at (fxc_3 c) 10
theorem fa_59 {K : PySem.W.Frag} (c : JgHd.obsJ fx ad K = (true, vsx)) : (JgHd.ctB K "NoTruth" "ValueError.__new__" "ValueError.__init__" "ValueError" [.type "ValueError", .type "Exception", .type "BaseException", .type "object"] "found" "NoTruth.__init__" FILE) = true := JgHd.all_at (fxc_3 c) 11
theorem fa_60 {K : PySem.W.Frag} (c : JgHd.obsJ fx ad K = (true, vsx)) : (JgHd.ctB K "NoNote" "ValueError.__new__" "ValueError.__init__" "ValueError" [.type "ValueError", .type "Exception", .type "BaseException", .type "object"] "found" "NoNote.__init__" FILE) = true := JgHd.all_at (fxc_3 c) 12
theorem fa_61 {K : PySem.W.Frag} (c : JgHd.obsJ fx ad K = (true, vsx)) : (JgHd.ctB K "NoList" "ValueError.__new__" "ValueError.__init__" "ValueError" [.type "ValueError", .type "Exception", .type "BaseException", .type "object"] "found" "NoList.__init__" FILE) = true := JgHd.all_at (fxc_3 c) 13
theorem fa_62 {K : PySem.W.Frag} (c : JgHd.obsJ fx ad K = (true, vsx)) : (JgHd.ctB K "NoAsk" "ValueError.__new__" "ValueError.__init__" "ValueError" [.type "ValueError", .type "Exception", .type "BaseException", .type "object"] "found" "NoAsk.__init__" FILE) = true := JgHd.all_at (fxc_3 c) 14
theorem fa_63 {K : PySem.W.Frag} (c : JgHd.obsJ fx ad K = (true, vsx)) : (JgHd.ctB K "NoRule" "ValueError.__new__" "ValueError.__init__" "ValueError" [.type "ValueError", .type "Exception", .type "BaseException", .type "object"] "found" "NoRule.__init__" FILE) = true := JgHd.all_at (fxc_3 c) 15
theorem fa_64 {K : PySem.W.Frag} (c : JgHd.obsJ fx ad K = (true, vsx)) : (JgHd.ctB K "NoRules" "ValueError.__new__" "ValueError.__init__" "ValueError" [.type "ValueError", .type "Exception", .type "BaseException", .type "object"] "found" "NoRules.__init__" FILE) = true := JgHd.all_at (fxc_4 c) 0
theorem fa_65 {K : PySem.W.Frag} (c : JgHd.obsJ fx ad K = (true, vsx)) : (JgHd.ctB K "NoRow" "ValueError.__new__" "ValueError.__init__" "ValueError" [.type "ValueError", .type "Exception", .type "BaseException", .type "object"] "found" "NoRow.__init__" FILE) = true := JgHd.all_at (fxc_4 c) 1
theorem fa_66 {K : PySem.W.Frag} (c : JgHd.obsJ fx ad K = (true, vsx)) : (JgHd.ctB K "NoShelf" "ValueError.__new__" "ValueError.__init__" "ValueError" [.type "ValueError", .type "Exception", .type "BaseException", .type "object"] "found" "NoShelf.__init__" FILE) = true := JgHd.all_at (fxc_4 c) 2
theorem fa_67 {K : PySem.W.Frag} (c : JgHd.obsJ fx ad K = (true, vsx)) : (JgHd.ctB K "NoDeed" "ValueError.__new__" "ValueError.__init__" "ValueError" [.type "ValueError", .type "Exception", .type "BaseException", .type "object"] "at" "NoDeed.__init__" FILE) = true := JgHd.all_at (fxc_4 c) 3
theorem fa_68 {K : PySem.W.Frag} (c : JgHd.obsJ fx ad K = (true, vsx)) : (JgHd.ctB K "NoText" "ValueError.__new__" "ValueError.__init__" "ValueError" [.type "ValueError", .type "Exception", .type "BaseException", .type "object"] "row" "NoText.__init__" FILE) = true := JgHd.all_at (fxc_4 c) 4
theorem fa_69 {K : PySem.W.Frag} (c : JgHd.obsJ fx ad K = (true, vsx)) : (JgHd.ctB K "NoLine" "ValueError.__new__" "ValueError.__init__" "ValueError" [.type "ValueError", .type "Exception", .type "BaseException", .type "object"] "found" "NoLine.__init__" FILE) = true := JgHd.all_at (fxc_4 c) 5
theorem fa_70 {K : PySem.W.Frag} (c : JgHd.obsJ fx ad K = (true, vsx)) : (JgHd.ctB K "Unlike" "ValueError.__new__" "ValueError.__init__" "ValueError" [.type "ValueError", .type "Exception", .type "BaseException", .type "object"] "found" "Unlike.__init__" FILE) = true := JgHd.all_at (fxc_4 c) 6
theorem fa_71 {K : PySem.W.Frag} (c : JgHd.obsJ fx ad K = (true, vsx)) : (JgHd.ctB K "Twice" "ValueError.__new__" "ValueError.__init__" "ValueError" [.type "ValueError", .type "Exception", .type "BaseException", .type "object"] "found" "Twice.__init__" FILE) = true := JgHd.all_at (fxc_4 c) 7
theorem fa_72 {K : PySem.W.Frag} (c : JgHd.obsJ fx ad K = (true, vsx)) : (JgHd.ctB K "TooMany" "ValueError.__new__" "ValueError.__init__" "ValueError" [.type "ValueError", .type "Exception", .type "BaseException", .type "object"] "many" "TooMany.__init__" FILE) = true := JgHd.all_at (fxc_4 c) 8
theorem fa_73 {K : PySem.W.Frag} (c : JgHd.obsJ fx ad K = (true, vsx)) : (JgHd.ctB K "TooGreat" "ValueError.__new__" "ValueError.__init__" "ValueError" [.type "ValueError", .type "Exception", .type "BaseException", .type "object"] "many" "TooGreat.__init__" FILE) = true := JgHd.all_at (fxc_4 c) 9
theorem fa_74 {K : PySem.W.Frag} (c : JgHd.obsJ fx ad K = (true, vsx)) : (JgHd.ctB K "NotThere" "LookupError.__new__" "KeyError.__init__" "KeyError" [.type "KeyError", .type "LookupError", .type "Exception", .type "BaseException", .type "object"] "found" "NotThere.__init__" FILE) = true := JgHd.all_at (fxc_4 c) 10
theorem fa_75 {K : PySem.W.Frag} (c : JgHd.obsJ fx ad K = (true, vsx)) : (JgHd.ctB K "NoSpot" "LookupError.__new__" "KeyError.__init__" "KeyError" [.type "KeyError", .type "LookupError", .type "Exception", .type "BaseException", .type "object"] "found" "NoSpot.__init__" FILE) = true := JgHd.all_at (fxc_4 c) 11
theorem fa_76 {K : PySem.W.Frag} (c : JgHd.obsJ fx ad K = (true, vsx)) : (JgHd.ctB K "NoMore" "LookupError.__new__" "LookupError.__init__" "LookupError" [.type "LookupError", .type "Exception", .type "BaseException", .type "object"] "found" "NoMore.__init__" FILE) = true := JgHd.all_at (fxc_4 c) 12
theorem fa_77 {K : PySem.W.Frag} (c : JgHd.obsJ fx ad K = (true, vsx)) : (JgHd.ctB K "Changed" "LookupError.__new__" "LookupError.__init__" "LookupError" [.type "LookupError", .type "Exception", .type "BaseException", .type "object"] "many" "Changed.__init__" FILE) = true := JgHd.all_at (fxc_4 c) 13
theorem fa_78 {K : PySem.W.Frag} (c : JgHd.obsJ fx ad K = (true, vsx)) : (JgHd.ctB K "Endless" "LookupError.__new__" "LookupError.__init__" "LookupError" [.type "LookupError", .type "Exception", .type "BaseException", .type "object"] "many" "Endless.__init__" FILE) = true := JgHd.all_at (fxc_4 c) 14
theorem fa_79 {K : PySem.W.Frag} (c : JgHd.obsJ fx ad K = (true, vsx)) : (JgHd.plB K "TermError" "ValueError.__new__" "ValueError.__init__" [.type "ValueError", .type "Exception", .type "BaseException", .type "object"]) = true := JgHd.all_at (fxc_4 c) 15
theorem fa_80 {K : PySem.W.Frag} (c : JgHd.obsJ fx ad K = (true, vsx)) : (JgHd.plB K "Absent" "LookupError.__new__" "KeyError.__init__" [.type "KeyError", .type "LookupError", .type "Exception", .type "BaseException", .type "object"]) = true := JgHd.all_at (fxc_5 c) 0
theorem fa_81 {K : PySem.W.Frag} (c : JgHd.obsJ fx ad K = (true, vsx)) : (JgHd.plB K "Ended" "LookupError.__new__" "LookupError.__init__" [.type "LookupError", .type "Exception", .type "BaseException", .type "object"]) = true := JgHd.all_at (fxc_5 c) 1
theorem fa_82 {K : PySem.W.Frag} (c : JgHd.obsJ fx ad K = (true, vsx)) : (JgHd.isB (PySem.W.nsIn K cStatics "thirdparty.any") (some none)) = true := JgHd.all_at (fxc_5 c) 2
theorem fa_83 {K : PySem.W.Frag} (c : JgHd.obsJ fx ad K = (true, vsx)) : (JgHd.freeB K "super") = true := JgHd.all_at (fxc_5 c) 3
theorem fa_84 {K : PySem.W.Frag} (c : JgHd.obsJ fx ad K = (true, vsx)) : (namesX.all fun x => JgHd.isB (PySem.W.typeIn K (.ref (He.ga K x))) (some (.type "type")) && (match PySem.W.clsIn K (He.ga K x) with
  | some cd => cd.mro.head? == some (.ref (He.ga K x))
  | none => false)) = true := JgHd.all_at (fxc_5 c) 4
theorem fa_85 {K : PySem.W.Frag} (c : JgHd.obsJ fx ad K = (true, vsx)) : (JgHd.frRows K namesX fun rows => JgX.kinTab fam rows && (JgX.tyTab "ValueError" (fun i => decide (fam i = 34)) rows && (JgX.tyTab "KeyError" (fun i => decide (fam i = 35)) rows && JgX.tyTab "LookupError" (fun i => decide (fam i = 35) || decide (fam i = 36)) rows))) = true := JgHd.all_at (fxc_5 c) 5
theorem says_0 {K : PySem.W.Frag} (c : JgHd.obsJ fx ad K = (true, vsx)) : JgHd.fnV K (He.ga K "_law_cell") = JgHd.textV "_law_cell" "_law_cell" (defArgs s_law_cell) (defBody s_law_cell) (defScope s_law_cell) [] := JgHd.says_fn c 0
theorem says_1 {K : PySem.W.Frag} (c : JgHd.obsJ fx ad K = (true, vsx)) : JgHd.fnV K (He.ga K "_law_bag") = JgHd.textV "_law_bag" "_law_bag" (defArgs s_law_bag) (defBody s_law_bag) (defScope s_law_bag) [] := JgHd.says_fn c 1
theorem says_2 {K : PySem.W.Frag} (c : JgHd.obsJ fx ad K = (true, vsx)) : JgHd.fnV K (He.ga K "_law_take") = JgHd.textV "_law_take" "_law_take" (defArgs s_law_take) (defBody s_law_take) (defScope s_law_take) [] := JgHd.says_fn c 2
theorem says_3 {K : PySem.W.Frag} (c : JgHd.obsJ fx ad K = (true, vsx)) : JgHd.fnV K (He.ga K "_law_marks_first") = JgHd.textV "_law_marks_first" "_law_marks_first" (defArgs s_law_marks_first) (defBody s_law_marks_first) (defScope s_law_marks_first) [] := JgHd.says_fn c 3
theorem says_4 {K : PySem.W.Frag} (c : JgHd.obsJ fx ad K = (true, vsx)) : JgHd.fnV K (He.ga K "_law_marks_last") = JgHd.textV "_law_marks_last" "_law_marks_last" (defArgs s_law_marks_last) (defBody s_law_marks_last) (defScope s_law_marks_last) [] := JgHd.says_fn c 4
theorem says_5 {K : PySem.W.Frag} (c : JgHd.obsJ fx ad K = (true, vsx)) : JgHd.fnV K (He.ga K "_law_families") = JgHd.textV "_law_families" "_law_families" (defArgs s_law_families) (defBody s_law_families) (defScope s_law_families) [] := JgHd.says_fn c 5
theorem says_6 {K : PySem.W.Frag} (c : JgHd.obsJ fx ad K = (true, vsx)) : JgHd.fnV K (He.ga K "_law_family_of") = JgHd.textV "_law_family_of" "_law_family_of" (defArgs s_law_family_of) (defBody s_law_family_of) (defScope s_law_family_of) [] := JgHd.says_fn c 6
theorem says_7 {K : PySem.W.Frag} (c : JgHd.obsJ fx ad K = (true, vsx)) : JgHd.fnV K (He.ga K "_law_made_first") = JgHd.textV "_law_made_first" "_law_made_first" (defArgs s_law_made_first) (defBody s_law_made_first) (defScope s_law_made_first) [] := JgHd.says_fn c 7
theorem says_8 {K : PySem.W.Frag} (c : JgHd.obsJ fx ad K = (true, vsx)) : JgHd.fnV K (He.ga K "_law_made_last") = JgHd.textV "_law_made_last" "_law_made_last" (defArgs s_law_made_last) (defBody s_law_made_last) (defScope s_law_made_last) [] := JgHd.says_fn c 8
theorem says_9 {K : PySem.W.Frag} (c : JgHd.obsJ fx ad K = (true, vsx)) : JgHd.fnV K (He.ga K "_law_any") = JgHd.textV "_law_any" "_law_any" (defArgs s_law_any) (defBody s_law_any) (defScope s_law_any) [] := JgHd.says_fn c 9
theorem says_10 {K : PySem.W.Frag} (c : JgHd.obsJ fx ad K = (true, vsx)) : JgHd.fnV K (He.ga K "_law_very") = JgHd.textV "_law_very" "_law_very" (defArgs s_law_very) (defBody s_law_very) (defScope s_law_very) [] := JgHd.says_fn c 10
theorem says_11 {K : PySem.W.Frag} (c : JgHd.obsJ fx ad K = (true, vsx)) : JgHd.fnV K (He.ga K "_law_fields_right") = JgHd.textV "_law_fields_right" "_law_fields_right" (defArgs s_law_fields_right) (defBody s_law_fields_right) (defScope s_law_fields_right) [] := JgHd.says_fn c 11
theorem says_12 {K : PySem.W.Frag} (c : JgHd.obsJ fx ad K = (true, vsx)) : JgHd.fnV K (He.ga K "_law_taken") = JgHd.textV "_law_taken" "_law_taken" (defArgs s_law_taken) (defBody s_law_taken) (defScope s_law_taken) [] := JgHd.says_fn c 12
theorem says_13 {K : PySem.W.Frag} (c : JgHd.obsJ fx ad K = (true, vsx)) : JgHd.fnV K (He.ga K "_law_by_name_right") = JgHd.textV "_law_by_name_right" "_law_by_name_right" (defArgs s_law_by_name_right) (defBody s_law_by_name_right) (defScope s_law_by_name_right) [] := JgHd.says_fn c 13
theorem says_14 {K : PySem.W.Frag} (c : JgHd.obsJ fx ad K = (true, vsx)) : JgHd.fnV K (He.ga K "_law_right") = JgHd.textV "_law_right" "_law_right" (defArgs s_law_right) (defBody s_law_right) (defScope s_law_right) [] := JgHd.says_fn c 14
theorem says_15 {K : PySem.W.Frag} (c : JgHd.obsJ fx ad K = (true, vsx)) : JgHd.fnV K (He.ga K "law") = JgHd.textV "law" "law" (defArgs s_law) (defBody s_law) (defScope s_law) [] := JgHd.says_fn c 15
theorem says_16 {K : PySem.W.Frag} (c : JgHd.obsJ fx ad K = (true, vsx)) : JgHd.fnV K (He.ma K (He.ga K "NoName") "__init__") = JgHd.textV "__init__" "NoName.__init__" (defArgs xs_NoName) (defBody xs_NoName) (defScope xs_NoName) ["__class__"] := JgHd.says_fn c 16
theorem says_17 {K : PySem.W.Frag} (c : JgHd.obsJ fx ad K = (true, vsx)) : JgHd.fnV K (He.ma K (He.ga K "NoWords") "__init__") = JgHd.textV "__init__" "NoWords.__init__" (defArgs xs_NoWords) (defBody xs_NoWords) (defScope xs_NoWords) ["__class__"] := JgHd.says_fn c 17
theorem says_18 {K : PySem.W.Frag} (c : JgHd.obsJ fx ad K = (true, vsx)) : JgHd.fnV K (He.ma K (He.ga K "NoSigns") "__init__") = JgHd.textV "__init__" "NoSigns.__init__" (defArgs xs_NoSigns) (defBody xs_NoSigns) (defScope xs_NoSigns) ["__class__"] := JgHd.says_fn c 18
theorem says_19 {K : PySem.W.Frag} (c : JgHd.obsJ fx ad K = (true, vsx)) : JgHd.fnV K (He.ma K (He.ga K "NoSign") "__init__") = JgHd.textV "__init__" "NoSign.__init__" (defArgs xs_NoSign) (defBody xs_NoSign) (defScope xs_NoSign) ["__class__"] := JgHd.says_fn c 19
theorem says_20 {K : PySem.W.Frag} (c : JgHd.obsJ fx ad K = (true, vsx)) : JgHd.fnV K (He.ma K (He.ga K "NoWord") "__init__") = JgHd.textV "__init__" "NoWord.__init__" (defArgs xs_NoWord) (defBody xs_NoWord) (defScope xs_NoWord) ["__class__"] := JgHd.says_fn c 20
theorem says_21 {K : PySem.W.Frag} (c : JgHd.obsJ fx ad K = (true, vsx)) : JgHd.fnV K (He.ma K (He.ga K "Beyond") "__init__") = JgHd.textV "__init__" "Beyond.__init__" (defArgs xs_Beyond) (defBody xs_Beyond) (defScope xs_Beyond) ["__class__"] := JgHd.says_fn c 21
theorem says_22 {K : PySem.W.Frag} (c : JgHd.obsJ fx ad K = (true, vsx)) : JgHd.fnV K (He.ma K (He.ga K "Unended") "__init__") = JgHd.textV "__init__" "Unended.__init__" (defArgs xs_Unended) (defBody xs_Unended) (defScope xs_Unended) ["__class__"] := JgHd.says_fn c 22
theorem says_23 {K : PySem.W.Frag} (c : JgHd.obsJ fx ad K = (true, vsx)) : JgHd.fnV K (He.ma K (He.ga K "NoTerm") "__init__") = JgHd.textV "__init__" "NoTerm.__init__" (defArgs xs_NoTerm) (defBody xs_NoTerm) (defScope xs_NoTerm) ["__class__"] := JgHd.says_fn c 23
theorem says_24 {K : PySem.W.Frag} (c : JgHd.obsJ fx ad K = (true, vsx)) : JgHd.fnV K (He.ma K (He.ga K "NoTerms") "__init__") = JgHd.textV "__init__" "NoTerms.__init__" (defArgs xs_NoTerms) (defBody xs_NoTerms) (defScope xs_NoTerms) ["__class__"] := JgHd.says_fn c 24
theorem says_25 {K : PySem.W.Frag} (c : JgHd.obsJ fx ad K = (true, vsx)) : JgHd.fnV K (He.ma K (He.ga K "NoLetter") "__init__") = JgHd.textV "__init__" "NoLetter.__init__" (defArgs xs_NoLetter) (defBody xs_NoLetter) (defScope xs_NoLetter) ["__class__"] := JgHd.says_fn c 25
theorem says_26 {K : PySem.W.Frag} (c : JgHd.obsJ fx ad K = (true, vsx)) : JgHd.fnV K (He.ma K (He.ga K "NoPairs") "__init__") = JgHd.textV "__init__" "NoPairs.__init__" (defArgs xs_NoPairs) (defBody xs_NoPairs) (defScope xs_NoPairs) ["__class__"] := JgHd.says_fn c 26
theorem says_27 {K : PySem.W.Frag} (c : JgHd.obsJ fx ad K = (true, vsx)) : JgHd.fnV K (He.ma K (He.ga K "NoPutting") "__init__") = JgHd.textV "__init__" "NoPutting.__init__" (defArgs xs_NoPutting) (defBody xs_NoPutting) (defScope xs_NoPutting) ["__class__"] := JgHd.says_fn c 27
theorem says_28 {K : PySem.W.Frag} (c : JgHd.obsJ fx ad K = (true, vsx)) : JgHd.fnV K (He.ma K (He.ga K "NoWay") "__init__") = JgHd.textV "__init__" "NoWay.__init__" (defArgs xs_NoWay) (defBody xs_NoWay) (defScope xs_NoWay) ["__class__"] := JgHd.says_fn c 28
theorem says_29 {K : PySem.W.Frag} (c : JgHd.obsJ fx ad K = (true, vsx)) : JgHd.fnV K (He.ma K (He.ga K "NoNumber") "__init__") = JgHd.textV "__init__" "NoNumber.__init__" (defArgs xs_NoNumber) (defBody xs_NoNumber) (defScope xs_NoNumber) ["__class__"] := JgHd.says_fn c 29
theorem says_30 {K : PySem.W.Frag} (c : JgHd.obsJ fx ad K = (true, vsx)) : JgHd.fnV K (He.ma K (He.ga K "NoTruth") "__init__") = JgHd.textV "__init__" "NoTruth.__init__" (defArgs xs_NoTruth) (defBody xs_NoTruth) (defScope xs_NoTruth) ["__class__"] := JgHd.says_fn c 30
theorem says_31 {K : PySem.W.Frag} (c : JgHd.obsJ fx ad K = (true, vsx)) : JgHd.fnV K (He.ma K (He.ga K "NoNote") "__init__") = JgHd.textV "__init__" "NoNote.__init__" (defArgs xs_NoNote) (defBody xs_NoNote) (defScope xs_NoNote) ["__class__"] := JgHd.says_fn c 31
theorem says_32 {K : PySem.W.Frag} (c : JgHd.obsJ fx ad K = (true, vsx)) : JgHd.fnV K (He.ma K (He.ga K "NoList") "__init__") = JgHd.textV "__init__" "NoList.__init__" (defArgs xs_NoList) (defBody xs_NoList) (defScope xs_NoList) ["__class__"] := JgHd.says_fn c 32
theorem says_33 {K : PySem.W.Frag} (c : JgHd.obsJ fx ad K = (true, vsx)) : JgHd.fnV K (He.ma K (He.ga K "NoAsk") "__init__") = JgHd.textV "__init__" "NoAsk.__init__" (defArgs xs_NoAsk) (defBody xs_NoAsk) (defScope xs_NoAsk) ["__class__"] := JgHd.says_fn c 33
theorem says_34 {K : PySem.W.Frag} (c : JgHd.obsJ fx ad K = (true, vsx)) : JgHd.fnV K (He.ma K (He.ga K "NoRule") "__init__") = JgHd.textV "__init__" "NoRule.__init__" (defArgs xs_NoRule) (defBody xs_NoRule) (defScope xs_NoRule) ["__class__"] := JgHd.says_fn c 34
theorem says_35 {K : PySem.W.Frag} (c : JgHd.obsJ fx ad K = (true, vsx)) : JgHd.fnV K (He.ma K (He.ga K "NoRules") "__init__") = JgHd.textV "__init__" "NoRules.__init__" (defArgs xs_NoRules) (defBody xs_NoRules) (defScope xs_NoRules) ["__class__"] := JgHd.says_fn c 35
theorem says_36 {K : PySem.W.Frag} (c : JgHd.obsJ fx ad K = (true, vsx)) : JgHd.fnV K (He.ma K (He.ga K "NoRow") "__init__") = JgHd.textV "__init__" "NoRow.__init__" (defArgs xs_NoRow) (defBody xs_NoRow) (defScope xs_NoRow) ["__class__"] := JgHd.says_fn c 36
theorem says_37 {K : PySem.W.Frag} (c : JgHd.obsJ fx ad K = (true, vsx)) : JgHd.fnV K (He.ma K (He.ga K "NoShelf") "__init__") = JgHd.textV "__init__" "NoShelf.__init__" (defArgs xs_NoShelf) (defBody xs_NoShelf) (defScope xs_NoShelf) ["__class__"] := JgHd.says_fn c 37
theorem says_38 {K : PySem.W.Frag} (c : JgHd.obsJ fx ad K = (true, vsx)) : JgHd.fnV K (He.ma K (He.ga K "NoDeed") "__init__") = JgHd.textV "__init__" "NoDeed.__init__" (defArgs xs_NoDeed) (defBody xs_NoDeed) (defScope xs_NoDeed) ["__class__"] := JgHd.says_fn c 38
theorem says_39 {K : PySem.W.Frag} (c : JgHd.obsJ fx ad K = (true, vsx)) : JgHd.fnV K (He.ma K (He.ga K "NoText") "__init__") = JgHd.textV "__init__" "NoText.__init__" (defArgs xs_NoText) (defBody xs_NoText) (defScope xs_NoText) ["__class__"] := JgHd.says_fn c 39
theorem says_40 {K : PySem.W.Frag} (c : JgHd.obsJ fx ad K = (true, vsx)) : JgHd.fnV K (He.ma K (He.ga K "NoLine") "__init__") = JgHd.textV "__init__" "NoLine.__init__" (defArgs xs_NoLine) (defBody xs_NoLine) (defScope xs_NoLine) ["__class__"] := JgHd.says_fn c 40
theorem says_41 {K : PySem.W.Frag} (c : JgHd.obsJ fx ad K = (true, vsx)) : JgHd.fnV K (He.ma K (He.ga K "Unlike") "__init__") = JgHd.textV "__init__" "Unlike.__init__" (defArgs xs_Unlike) (defBody xs_Unlike) (defScope xs_Unlike) ["__class__"] := JgHd.says_fn c 41
theorem says_42 {K : PySem.W.Frag} (c : JgHd.obsJ fx ad K = (true, vsx)) : JgHd.fnV K (He.ma K (He.ga K "Twice") "__init__") = JgHd.textV "__init__" "Twice.__init__" (defArgs xs_Twice) (defBody xs_Twice) (defScope xs_Twice) ["__class__"] := JgHd.says_fn c 42
theorem says_43 {K : PySem.W.Frag} (c : JgHd.obsJ fx ad K = (true, vsx)) : JgHd.fnV K (He.ma K (He.ga K "TooMany") "__init__") = JgHd.textV "__init__" "TooMany.__init__" (defArgs xs_TooMany) (defBody xs_TooMany) (defScope xs_TooMany) ["__class__"] := JgHd.says_fn c 43
theorem says_44 {K : PySem.W.Frag} (c : JgHd.obsJ fx ad K = (true, vsx)) : JgHd.fnV K (He.ma K (He.ga K "TooGreat") "__init__") = JgHd.textV "__init__" "TooGreat.__init__" (defArgs xs_TooGreat) (defBody xs_TooGreat) (defScope xs_TooGreat) ["__class__"] := JgHd.says_fn c 44
theorem says_45 {K : PySem.W.Frag} (c : JgHd.obsJ fx ad K = (true, vsx)) : JgHd.fnV K (He.ma K (He.ga K "NotThere") "__init__") = JgHd.textV "__init__" "NotThere.__init__" (defArgs xs_NotThere) (defBody xs_NotThere) (defScope xs_NotThere) ["__class__"] := JgHd.says_fn c 45
theorem says_46 {K : PySem.W.Frag} (c : JgHd.obsJ fx ad K = (true, vsx)) : JgHd.fnV K (He.ma K (He.ga K "NoSpot") "__init__") = JgHd.textV "__init__" "NoSpot.__init__" (defArgs xs_NoSpot) (defBody xs_NoSpot) (defScope xs_NoSpot) ["__class__"] := JgHd.says_fn c 46
theorem says_47 {K : PySem.W.Frag} (c : JgHd.obsJ fx ad K = (true, vsx)) : JgHd.fnV K (He.ma K (He.ga K "NoMore") "__init__") = JgHd.textV "__init__" "NoMore.__init__" (defArgs xs_NoMore) (defBody xs_NoMore) (defScope xs_NoMore) ["__class__"] := JgHd.says_fn c 47
theorem says_48 {K : PySem.W.Frag} (c : JgHd.obsJ fx ad K = (true, vsx)) : JgHd.fnV K (He.ma K (He.ga K "Changed") "__init__") = JgHd.textV "__init__" "Changed.__init__" (defArgs xs_Changed) (defBody xs_Changed) (defScope xs_Changed) ["__class__"] := JgHd.says_fn c 48
theorem says_49 {K : PySem.W.Frag} (c : JgHd.obsJ fx ad K = (true, vsx)) : JgHd.fnV K (He.ma K (He.ga K "Endless") "__init__") = JgHd.textV "__init__" "Endless.__init__" (defArgs xs_Endless) (defBody xs_Endless) (defScope xs_Endless) ["__class__"] := JgHd.says_fn c 49

local macro_rules | `(tactic| walk_at "ne") => `(tactic| first | (with_reducible assumption) | ((with_reducible apply Ne.symm); (with_reducible assumption)) | exact ne_new (by with_reducible assumption) (by walk_at "hx") | exact (ne_new (by with_reducible assumption) (by walk_at "hx")).symm)
local macro_rules | `(tactic| walk_at "bg") => `(tactic| first | (with_reducible assumption) | ((with_reducible refine Bg.new ?_ (by with_reducible assumption)); walk_at "bg") | ((with_reducible refine Bg.off ?_ (by walk_at "ne")); walk_at "bg"))
local macro_rules | `(tactic| walk_at "hx") => `(tactic| first | (with_reducible assumption) | (with_reducible exact upd_same) | ((with_reducible refine upd_keep (by with_reducible assumption) ?_); walk_at "hx") | ((with_reducible refine Eq.trans (upd_ne (by walk_at "ne")) ?_); walk_at "hx"))
local macro_rules | `(tactic| walk_at "mv") => `(tactic| first | (with_reducible exact Mv.refl _ _) | (with_reducible assumption) | ((with_reducible refine mv_new (by with_reducible assumption) ?_); walk_at "mv"))
local macro_rules | `(tactic| walk_at "sq") => `(tactic| first | assumption | exact Or.inl (Or.inl (by walk_at "hx")))
local macro_rules | `(tactic| walk_at "side") => `(tactic| first | ((try dsimp only); omega) | exact Or.inl ⟨by omega, by omega⟩ | exact ⟨by omega, by omega, by omega⟩ | exact wide_div (b := 128) (by omega) (by omega) (by omega) (by omega) | decide)
local macro_rules | `(tactic| walk_at "go1") => `(tactic| first
  | ((with_reducible apply g_var); (exact rfl))
  | with_reducible refine g_op ?_
  | with_reducible refine g_c ?_
  | with_reducible refine g_I0 ?_
  | with_reducible refine g_test ?_
  | with_reducible refine g_B ?_
  | with_reducible refine g_bl ?_
  | with_reducible refine g_cons ?_
  | with_reducible refine g_nil ?_
  | with_reducible refine g_call ?_
  | with_reducible refine g_CB ?_
  | with_reducible refine s_seq ?_
  | with_reducible refine s_next ?_
  | with_reducible refine s_asg ?_
  | with_reducible refine s_name ?_
  | with_reducible refine s_if ?_
  | with_reducible refine s_ret ?_
  | with_reducible refine s_retN ?_
  | with_reducible refine s_drop ?_
  | with_reducible refine s_sub ?_
  | with_reducible refine s_brk ?_
  | with_reducible refine s_cont ?_
  | with_reducible refine g_not ?_
  | with_reducible refine g_and ?_
  | with_reducible refine g_or ?_
  | with_reducible refine g_if ?_
  | with_reducible refine g_notV ?_
  | with_reducible refine g_andV ?_
  | with_reducible refine g_orV ?_
  | with_reducible refine g_un ?_
  | with_reducible refine g_is ?_
  | with_reducible refine g_isNot ?_
  | ((with_reducible apply g_eq); (exact rfl))
  | ((with_reducible apply g_ne); (exact rfl))
  | ((with_reducible apply g_ixL); (walk_at "sq"); (exact rfl))
  | ((with_reducible apply g_I); (walk_at "side"))
  | ((with_reducible apply s_setL); (walk_at "hx"); (exact rfl))
  | ((with_reducible apply g_lenL); (walk_at "sq"))
  | ((with_reducible apply g_lenS); (first | assumption | exact Nat.le_trans (by assumption) (by decide)))
  | with_reducible refine g_int ?_
  | with_reducible refine g_intB ?_
  | with_reducible refine g_max ?_
  | with_reducible refine g_min ?_
  | with_reducible refine g_lst ?_
  | with_reducible refine g_tup ?_
  | ((with_reducible apply g_slS); (first | assumption | exact Nat.le_trans (by assumption) (by decide)))
  | with_reducible refine g_BM ?_
  | with_reducible refine g_M1 ?_
  | with_reducible refine g_str ?_
  | with_reducible refine g_sl ?_
  | with_reducible refine g_noPart ?_
  | with_reducible refine g_part ?_
  | with_reducible refine g_ex ?_
  | with_reducible refine g_true ?_
  | with_reducible refine g_false ?_
  | ((with_reducible apply g_sz); (exact Nat.le_of_ble_eq_true rfl); intro _ _)
  | ((with_reducible refine g_dnew ?_); intro _ _)
  | ((with_reducible refine g_disp1 ?_); intro _ _)
  | with_reducible refine g_U ?_
  | with_reducible refine g_replIx ?_
  | with_reducible refine g_same ?_
  | with_reducible refine g_nt ?_
  | with_reducible refine g_nf ?_
  | with_reducible refine g_chain ?_
  | with_reducible refine g_callN ?_
  | with_reducible refine g_lc ?_
  | with_reducible refine s_for ?_
  | with_reducible refine g_rng1 ?_
  | ((with_reducible apply g_rngN); (omega))
  | with_reducible refine g_iList ?_
  | with_reducible refine g_iStr ?_
  | with_reducible refine g_its ?_
  | ((with_reducible apply g_itl); (walk_at "sq"))
  | ((with_reducible apply g_yes); (first | omega | decide))
  | ((with_reducible apply g_no); (first | omega | decide)))
local macro_rules | `(tactic| walk_at "go") => `(tactic| repeat (walk_at "go1"))
local macro_rules | `(tactic| walk_at "st") => `(tactic| repeat (first | with_reducible refine s_seq ?_ | with_reducible refine s_next ?_ | with_reducible refine s_asg ?_ | with_reducible refine s_name ?_ | with_reducible refine s_drop ?_ | with_reducible refine s_ret ?_))

section
variable {P : Program} {w : World} {K : PySem.W.Frag} {mg : Str → Option Value} {base : Heap} {f : Nat → Addr} {d : Nat → FuncData}
theorem ok_law_cell (T : Txt P K mg f d) : FnOk P w K mg base CX0 1 (f 0) (d 0) ["_law_script", "_law_k"] (sp_law_cell K) := by
  refine T.F_law_cell.ok sc_law_cell (fun vs H Q E h => ?_) (fun cdv A outer s H vs Q E hr h => ?_)
  · obtain ⟨a, ns, k, rfl, hs, hk, q⟩ := h
    rfl
  · obtain ⟨a, ns, k, rfl, hs, hk, q⟩ := h
    refine ⟨_, (pss_cons (ps_if (pt_cmpR op_lt (pv 1) (pe_callB (call_lenV (K := K)) (by rfl) T.z_len (by decide +kernel) (pa_cons (pv 0) pa_nil)) (nomark _)) (pss_one (ps_ret (pe_ix (ix_listV (K := K)) (pv 0) (pv 1) (fun _ _ => rfl)))) pss_nil)
      (pss_one (ps_ret (pe_op op_add (pe_op op_mul pe_int (pv 1)) pe_int)))), ?_⟩
    walk_at "go"
    refine g_two (fun h => ?_) (fun h => ?_)
    · walk_at "go"
      rw [List.length_map] at h
      have hkl : k < ns.length := by omega
      refine g_ixL hs (v := .int (ns[k]'hkl)) ?_ (q _)
      unfold atI ixN
      rw [List.length_map, if_pos (by omega), if_pos (by omega)]
      simp [hkl]
    · walk_at "go"
      exact q _
end
section
variable {P : Program} {w : World} {K : PySem.W.Frag} {mg : Str → Option Value} {base : Heap} {f : Nat → Addr} {d : Nat → FuncData}
theorem ok_law_bag (T : Txt P K mg f d) : FnOk P w K mg base CX0 1 (f 1) (d 1) ["_law_cell_here"] (sp_law_bag K) := by
  refine T.F_law_bag.ok sc_law_bag (fun vs H Q E h => ?_) (fun cdv A outer s H vs Q E hr h => ?_)
  · obtain ⟨z, rfl, q⟩ := h
    rfl
  · obtain ⟨z, rfl, q⟩ := h
    refine ⟨_, (pss_one (ps_ret (pe_lst (pa_cons (pe_callB (call_maxV rfl) (by rfl) T.z_max (by decide +kernel) (pa_cons pe_int (pa_cons (pe_op op_sub (pv 0) (pe_op op_pow pe_int pe_int)) pa_nil))) (pa_cons (pe_op op_mod (pv 0) pe_int) (pa_cons pe_int pa_nil)))))), ?_⟩
    walk_at "go"
    rename_i p hp
    refine q p _ hp (fun b o e => ?_) ⟨_, _, _, upd_same, ?_, ?_, ?_, ?_⟩
    · rw [upd_ne (ne_of_none e hp)]
      exact e
    all_goals omega
end
section
variable {P : Program} {w : World} {K : PySem.W.Frag} {mg : Str → Option Value} {base : Heap} {f : Nat → Addr} {d : Nat → FuncData}
theorem ok_law_take (T : Txt P K mg f d) : FnOk P w K mg base CX0 1 (f 2) (d 2) ["_law_bag_here", "_law_much"] (sp_law_take K) := by
  refine T.F_law_take.ok sc_law_take (fun vs H Q E h => ?_) (fun cdv A outer s H vs Q E hr h => ?_)
  · obtain ⟨p, m, n, rfl, hm, hM, hn, ⟨a, b, c, hp, hb0, hb1, hc0, hc1⟩, q⟩ := h
    rfl
  · obtain ⟨p, m, n, rfl, hm, hM, hn, ⟨a, b, c, hp, hb0, hb1, hc0, hc1⟩, q⟩ := h
    refine ⟨_, (pss_cons (ps_if (pt_cmpR op_gt (pe_ix (ix_listV (K := K)) (pv 0) pe_int (fun _ _ => rfl)) pe_int (nomark _)) (pss_cons (ps_set (i := 2) sc_law_take.nd rfl (.inl rfl) (pe_op op_mod (pe_ix (ix_listV (K := K)) (pv 0) pe_int (fun _ _ => rfl)) (pv 1)))
      (pss_cons (ps_asg (pe_op op_fdivW (pe_ix (ix_listV (K := K)) (pv 0) pe_int (fun _ _ => rfl)) (pv 1)) (pg_sub (pv 0) pe_int set_list))
      (pss_one (ps_ret (pv 2))))) pss_nil)
      (pss_cons (ps_asg (pe_op op_add (pe_ix (ix_listV (K := K)) (pv 0) pe_int (fun _ _ => rfl)) pe_int) (pg_sub (pv 0) pe_int set_list))
      (pss_cons (ps_set (i := 3) sc_law_take.nd rfl (.inl rfl) (pe_op op_mod (pe_op op_pow (pe_op op_add (pe_op op_add (pe_ix (ix_listV (K := K)) (pv 0) pe_int (fun _ _ => rfl)) (pe_op op_mul pe_int (pe_ix (ix_listV (K := K)) (pv 0) pe_int (fun _ _ => rfl)))) pe_int) pe_int) pe_int))
      (pss_cons (ps_set (i := 3) sc_law_take.nd rfl (.inl rfl) (pe_op op_mod (pe_op op_pow (pe_op op_add (pv 3) (pe_op op_mul pe_int (pe_ix (ix_listV (K := K)) (pv 0) pe_int (fun _ _ => rfl)))) pe_int) pe_int))
      (pss_one (ps_ret (pe_op op_mod (pe_op op_fdivW (pv 3) pe_int) (pv 1)))))))), ?_⟩
    walk_at "go"
    refine g_two (fun h => ?_) (fun h => ?_)
    · walk_at "go"
      refine q _ _ (Int.emod_nonneg _ (by omega)) (Int.emod_lt_of_pos _ hm) ⟨_, _, _, upd_same, hb0, hb1, hc0, by omega⟩ (Mv.upd p H _)
    · walk_at "go"
      refine q _ _ (Int.emod_nonneg _ (by omega)) (Int.emod_lt_of_pos _ hm) ⟨_, _, _, upd_same, hb0, hb1, by omega, by omega⟩ (Mv.upd p H _)
end
section
variable {P : Program} {w : World} {K : PySem.W.Frag} {mg : Str → Option Value} {base : Heap} {f : Nat → Addr} {d : Nat → FuncData}
theorem ok_law_marks_first (T : Txt P K mg f d) : FnOk P w K mg base CX0 1 (f 3) (d 3) ["_law_e"] (sp_law_marks_first K) := by
  refine T.F_law_marks_first.ok sc_law_marks_first (fun vs H Q E h => ?_) (fun cdv A outer s H vs Q E hr h => ?_)
  · obtain ⟨v, i, rfl, ⟨hi, he⟩, q⟩ := h
    rfl
  · obtain ⟨v, i, rfl, ⟨hi, he⟩, q⟩ := h
    refine ⟨_, (pss_cons (ps_set (i := 1) sc_law_marks_first.nd rfl (.inl rfl) (pe_lst (pa_cons (pe_callB (JgX.call_isi3 (K := K)) (by rfl) T.z_isinstance (by decide +kernel) (pa_cons (pv 0) (pa_cons (pe_glob (v := .ref (f 100)) rfl T.q_NoName.c rfl) pa_nil))) (pa_cons (pe_callB (JgX.call_isi3 (K := K)) (by rfl) T.z_isinstance (by decide +kernel) (pa_cons (pv 0) (pa_cons (pe_glob (v := .ref (f 102)) rfl T.q_NoWords.c rfl) pa_nil))) (pa_cons (pe_callB (JgX.call_isi3 (K := K)) (by rfl) T.z_isinstance (by decide +kernel) (pa_cons (pv 0) (pa_cons (pe_glob (v := .ref (f 104)) rfl T.q_NoSigns.c rfl) pa_nil))) pa_nil)))))
      (pss_cons (ps_set (i := 1) sc_law_marks_first.nd rfl (.inl rfl) (pe_op op_cat (pv 1) (pe_lst (pa_cons (pe_callB (JgX.call_isi3 (K := K)) (by rfl) T.z_isinstance (by decide +kernel) (pa_cons (pv 0) (pa_cons (pe_glob (v := .ref (f 106)) rfl T.q_NoSign.c rfl) pa_nil))) (pa_cons (pe_callB (JgX.call_isi3 (K := K)) (by rfl) T.z_isinstance (by decide +kernel) (pa_cons (pv 0) (pa_cons (pe_glob (v := .ref (f 108)) rfl T.q_NoWord.c rfl) pa_nil))) (pa_cons (pe_callB (JgX.call_isi3 (K := K)) (by rfl) T.z_isinstance (by decide +kernel) (pa_cons (pv 0) (pa_cons (pe_glob (v := .ref (f 110)) rfl T.q_Beyond.c rfl) pa_nil))) pa_nil))))))
      (pss_cons (ps_set (i := 1) sc_law_marks_first.nd rfl (.inl rfl) (pe_op op_cat (pv 1) (pe_lst (pa_cons (pe_callB (JgX.call_isi3 (K := K)) (by rfl) T.z_isinstance (by decide +kernel) (pa_cons (pv 0) (pa_cons (pe_glob (v := .ref (f 112)) rfl T.q_Unended.c rfl) pa_nil))) (pa_cons (pe_callB (JgX.call_isi3 (K := K)) (by rfl) T.z_isinstance (by decide +kernel) (pa_cons (pv 0) (pa_cons (pe_glob (v := .ref (f 114)) rfl T.q_NoTerm.c rfl) pa_nil))) (pa_cons (pe_callB (JgX.call_isi3 (K := K)) (by rfl) T.z_isinstance (by decide +kernel) (pa_cons (pv 0) (pa_cons (pe_glob (v := .ref (f 116)) rfl T.q_NoTerms.c rfl) pa_nil))) pa_nil))))))
      (pss_cons (ps_set (i := 1) sc_law_marks_first.nd rfl (.inl rfl) (pe_op op_cat (pv 1) (pe_lst (pa_cons (pe_callB (JgX.call_isi3 (K := K)) (by rfl) T.z_isinstance (by decide +kernel) (pa_cons (pv 0) (pa_cons (pe_glob (v := .ref (f 118)) rfl T.q_NoLetter.c rfl) pa_nil))) (pa_cons (pe_callB (JgX.call_isi3 (K := K)) (by rfl) T.z_isinstance (by decide +kernel) (pa_cons (pv 0) (pa_cons (pe_glob (v := .ref (f 120)) rfl T.q_NoPairs.c rfl) pa_nil))) (pa_cons (pe_callB (JgX.call_isi3 (K := K)) (by rfl) T.z_isinstance (by decide +kernel) (pa_cons (pv 0) (pa_cons (pe_glob (v := .ref (f 122)) rfl T.q_NoPutting.c rfl) pa_nil))) pa_nil))))))
      (pss_cons (ps_set (i := 1) sc_law_marks_first.nd rfl (.inl rfl) (pe_op op_cat (pv 1) (pe_lst (pa_cons (pe_callB (JgX.call_isi3 (K := K)) (by rfl) T.z_isinstance (by decide +kernel) (pa_cons (pv 0) (pa_cons (pe_glob (v := .ref (f 124)) rfl T.q_NoWay.c rfl) pa_nil))) (pa_cons (pe_callB (JgX.call_isi3 (K := K)) (by rfl) T.z_isinstance (by decide +kernel) (pa_cons (pv 0) (pa_cons (pe_glob (v := .ref (f 126)) rfl T.q_NoNumber.c rfl) pa_nil))) (pa_cons (pe_callB (JgX.call_isi3 (K := K)) (by rfl) T.z_isinstance (by decide +kernel) (pa_cons (pv 0) (pa_cons (pe_glob (v := .ref (f 128)) rfl T.q_NoTruth.c rfl) pa_nil))) pa_nil))))))
      (pss_cons (ps_set (i := 1) sc_law_marks_first.nd rfl (.inl rfl) (pe_op op_cat (pv 1) (pe_lst (pa_cons (pe_callB (JgX.call_isi3 (K := K)) (by rfl) T.z_isinstance (by decide +kernel) (pa_cons (pv 0) (pa_cons (pe_glob (v := .ref (f 130)) rfl T.q_NoNote.c rfl) pa_nil))) (pa_cons (pe_callB (JgX.call_isi3 (K := K)) (by rfl) T.z_isinstance (by decide +kernel) (pa_cons (pv 0) (pa_cons (pe_glob (v := .ref (f 132)) rfl T.q_NoList.c rfl) pa_nil))) (pa_cons (pe_callB (JgX.call_isi3 (K := K)) (by rfl) T.z_isinstance (by decide +kernel) (pa_cons (pv 0) (pa_cons (pe_glob (v := .ref (f 134)) rfl T.q_NoAsk.c rfl) pa_nil))) pa_nil))))))
      (pss_one (ps_ret (pv 1))))))))), ?_⟩
    have xa := T.xa i hi
    rw [T.ca i hi] at he
    have s0 : Same H H := fun _ _ e => e
    walk_at "go"
    refine JgX.g_isi3 he xa (.own _) (T.kit i 0 hi (by decide)) ?_
    walk_at "go"
    refine JgX.g_isi3 he xa (.own _) (T.kit i 1 hi (by decide)) ?_
    walk_at "go"
    refine JgX.g_isi3 he xa (.own _) (T.kit i 2 hi (by decide)) ?_
    walk_at "go"
    rename_i p0 h0
    replace he := he.new (o := .lst [V.bl (decide (i = 0)), V.bl (decide (i = 1)), V.bl (decide (i = 2))]) h0
    replace s0 := s0.trans (same_new (o := .lst [V.bl (decide (i = 0)), V.bl (decide (i = 1)), V.bl (decide (i = 2))]) h0)
    refine JgX.g_isi3 he xa (.own _) (T.kit i 3 hi (by decide)) ?_
    walk_at "go"
    refine JgX.g_isi3 he xa (.own _) (T.kit i 4 hi (by decide)) ?_
    walk_at "go"
    refine JgX.g_isi3 he xa (.own _) (T.kit i 5 hi (by decide)) ?_
    walk_at "go"
    rename_i b1 g1
    refine g_cat (by walk_at "hx") upd_same (Nat.le_trans (m := 100) (by simp) (by decide)) fun p1 h1 => ?_
    replace he := (he.new (o := .lst [V.bl (decide (i = 3)), V.bl (decide (i = 4)), V.bl (decide (i = 5))]) g1).new (o := .lst ([V.bl (decide (i = 0)), V.bl (decide (i = 1)), V.bl (decide (i = 2))] ++ [V.bl (decide (i = 3)), V.bl (decide (i = 4)), V.bl (decide (i = 5))])) h1
    replace s0 := (s0.trans (same_new (o := .lst [V.bl (decide (i = 3)), V.bl (decide (i = 4)), V.bl (decide (i = 5))]) g1)).trans (same_new (o := .lst ([V.bl (decide (i = 0)), V.bl (decide (i = 1)), V.bl (decide (i = 2))] ++ [V.bl (decide (i = 3)), V.bl (decide (i = 4)), V.bl (decide (i = 5))])) h1)
    walk_at "go"
    refine JgX.g_isi3 he xa (.own _) (T.kit i 6 hi (by decide)) ?_
    walk_at "go"
    refine JgX.g_isi3 he xa (.own _) (T.kit i 7 hi (by decide)) ?_
    walk_at "go"
    refine JgX.g_isi3 he xa (.own _) (T.kit i 8 hi (by decide)) ?_
    walk_at "go"
    rename_i b2 g2
    refine g_cat (by walk_at "hx") upd_same (Nat.le_trans (m := 100) (by simp) (by decide)) fun p2 h2 => ?_
    replace he := (he.new (o := .lst [V.bl (decide (i = 6)), V.bl (decide (i = 7)), V.bl (decide (i = 8))]) g2).new (o := .lst (([V.bl (decide (i = 0)), V.bl (decide (i = 1)), V.bl (decide (i = 2))] ++ [V.bl (decide (i = 3)), V.bl (decide (i = 4)), V.bl (decide (i = 5))]) ++ [V.bl (decide (i = 6)), V.bl (decide (i = 7)), V.bl (decide (i = 8))])) h2
    replace s0 := (s0.trans (same_new (o := .lst [V.bl (decide (i = 6)), V.bl (decide (i = 7)), V.bl (decide (i = 8))]) g2)).trans (same_new (o := .lst (([V.bl (decide (i = 0)), V.bl (decide (i = 1)), V.bl (decide (i = 2))] ++ [V.bl (decide (i = 3)), V.bl (decide (i = 4)), V.bl (decide (i = 5))]) ++ [V.bl (decide (i = 6)), V.bl (decide (i = 7)), V.bl (decide (i = 8))])) h2)
    walk_at "go"
    refine JgX.g_isi3 he xa (.own _) (T.kit i 9 hi (by decide)) ?_
    walk_at "go"
    refine JgX.g_isi3 he xa (.own _) (T.kit i 10 hi (by decide)) ?_
    walk_at "go"
    refine JgX.g_isi3 he xa (.own _) (T.kit i 11 hi (by decide)) ?_
    walk_at "go"
    rename_i b3 g3
    refine g_cat (by walk_at "hx") upd_same (Nat.le_trans (m := 100) (by simp) (by decide)) fun p3 h3 => ?_
    replace he := (he.new (o := .lst [V.bl (decide (i = 9)), V.bl (decide (i = 10)), V.bl (decide (i = 11))]) g3).new (o := .lst ((([V.bl (decide (i = 0)), V.bl (decide (i = 1)), V.bl (decide (i = 2))] ++ [V.bl (decide (i = 3)), V.bl (decide (i = 4)), V.bl (decide (i = 5))]) ++ [V.bl (decide (i = 6)), V.bl (decide (i = 7)), V.bl (decide (i = 8))]) ++ [V.bl (decide (i = 9)), V.bl (decide (i = 10)), V.bl (decide (i = 11))])) h3
    replace s0 := (s0.trans (same_new (o := .lst [V.bl (decide (i = 9)), V.bl (decide (i = 10)), V.bl (decide (i = 11))]) g3)).trans (same_new (o := .lst ((([V.bl (decide (i = 0)), V.bl (decide (i = 1)), V.bl (decide (i = 2))] ++ [V.bl (decide (i = 3)), V.bl (decide (i = 4)), V.bl (decide (i = 5))]) ++ [V.bl (decide (i = 6)), V.bl (decide (i = 7)), V.bl (decide (i = 8))]) ++ [V.bl (decide (i = 9)), V.bl (decide (i = 10)), V.bl (decide (i = 11))])) h3)
    walk_at "go"
    refine JgX.g_isi3 he xa (.own _) (T.kit i 12 hi (by decide)) ?_
    walk_at "go"
    refine JgX.g_isi3 he xa (.own _) (T.kit i 13 hi (by decide)) ?_
    walk_at "go"
    refine JgX.g_isi3 he xa (.own _) (T.kit i 14 hi (by decide)) ?_
    walk_at "go"
    rename_i b4 g4
    refine g_cat (by walk_at "hx") upd_same (Nat.le_trans (m := 100) (by simp) (by decide)) fun p4 h4 => ?_
    replace he := (he.new (o := .lst [V.bl (decide (i = 12)), V.bl (decide (i = 13)), V.bl (decide (i = 14))]) g4).new (o := .lst (((([V.bl (decide (i = 0)), V.bl (decide (i = 1)), V.bl (decide (i = 2))] ++ [V.bl (decide (i = 3)), V.bl (decide (i = 4)), V.bl (decide (i = 5))]) ++ [V.bl (decide (i = 6)), V.bl (decide (i = 7)), V.bl (decide (i = 8))]) ++ [V.bl (decide (i = 9)), V.bl (decide (i = 10)), V.bl (decide (i = 11))]) ++ [V.bl (decide (i = 12)), V.bl (decide (i = 13)), V.bl (decide (i = 14))])) h4
    replace s0 := (s0.trans (same_new (o := .lst [V.bl (decide (i = 12)), V.bl (decide (i = 13)), V.bl (decide (i = 14))]) g4)).trans (same_new (o := .lst (((([V.bl (decide (i = 0)), V.bl (decide (i = 1)), V.bl (decide (i = 2))] ++ [V.bl (decide (i = 3)), V.bl (decide (i = 4)), V.bl (decide (i = 5))]) ++ [V.bl (decide (i = 6)), V.bl (decide (i = 7)), V.bl (decide (i = 8))]) ++ [V.bl (decide (i = 9)), V.bl (decide (i = 10)), V.bl (decide (i = 11))]) ++ [V.bl (decide (i = 12)), V.bl (decide (i = 13)), V.bl (decide (i = 14))])) h4)
    walk_at "go"
    refine JgX.g_isi3 he xa (.own _) (T.kit i 15 hi (by decide)) ?_
    walk_at "go"
    refine JgX.g_isi3 he xa (.own _) (T.kit i 16 hi (by decide)) ?_
    walk_at "go"
    refine JgX.g_isi3 he xa (.own _) (T.kit i 17 hi (by decide)) ?_
    walk_at "go"
    rename_i b5 g5
    refine g_cat (by walk_at "hx") upd_same (Nat.le_trans (m := 100) (by simp) (by decide)) fun p5 h5 => ?_
    replace he := (he.new (o := .lst [V.bl (decide (i = 15)), V.bl (decide (i = 16)), V.bl (decide (i = 17))]) g5).new (o := .lst ((((([V.bl (decide (i = 0)), V.bl (decide (i = 1)), V.bl (decide (i = 2))] ++ [V.bl (decide (i = 3)), V.bl (decide (i = 4)), V.bl (decide (i = 5))]) ++ [V.bl (decide (i = 6)), V.bl (decide (i = 7)), V.bl (decide (i = 8))]) ++ [V.bl (decide (i = 9)), V.bl (decide (i = 10)), V.bl (decide (i = 11))]) ++ [V.bl (decide (i = 12)), V.bl (decide (i = 13)), V.bl (decide (i = 14))]) ++ [V.bl (decide (i = 15)), V.bl (decide (i = 16)), V.bl (decide (i = 17))])) h5
    replace s0 := (s0.trans (same_new (o := .lst [V.bl (decide (i = 15)), V.bl (decide (i = 16)), V.bl (decide (i = 17))]) g5)).trans (same_new (o := .lst ((((([V.bl (decide (i = 0)), V.bl (decide (i = 1)), V.bl (decide (i = 2))] ++ [V.bl (decide (i = 3)), V.bl (decide (i = 4)), V.bl (decide (i = 5))]) ++ [V.bl (decide (i = 6)), V.bl (decide (i = 7)), V.bl (decide (i = 8))]) ++ [V.bl (decide (i = 9)), V.bl (decide (i = 10)), V.bl (decide (i = 11))]) ++ [V.bl (decide (i = 12)), V.bl (decide (i = 13)), V.bl (decide (i = 14))]) ++ [V.bl (decide (i = 15)), V.bl (decide (i = 16)), V.bl (decide (i = 17))])) h5)
    walk_at "go"
    exact q _ _ s0 upd_same
end
section
variable {P : Program} {w : World} {K : PySem.W.Frag} {mg : Str → Option Value} {base : Heap} {f : Nat → Addr} {d : Nat → FuncData}
theorem ok_law_marks_last (T : Txt P K mg f d) : FnOk P w K mg base CX0 1 (f 4) (d 4) ["_law_e"] (sp_law_marks_last K) := by
  refine T.F_law_marks_last.ok sc_law_marks_last (fun vs H Q E h => ?_) (fun cdv A outer s H vs Q E hr h => ?_)
  · obtain ⟨v, i, rfl, ⟨hi, he⟩, q⟩ := h
    rfl
  · obtain ⟨v, i, rfl, ⟨hi, he⟩, q⟩ := h
    refine ⟨_, (pss_cons (ps_set (i := 1) sc_law_marks_last.nd rfl (.inl rfl) (pe_lst (pa_cons (pe_callB (JgX.call_isi3 (K := K)) (by rfl) T.z_isinstance (by decide +kernel) (pa_cons (pv 0) (pa_cons (pe_glob (v := .ref (f 136)) rfl T.q_NoRule.c rfl) pa_nil))) (pa_cons (pe_callB (JgX.call_isi3 (K := K)) (by rfl) T.z_isinstance (by decide +kernel) (pa_cons (pv 0) (pa_cons (pe_glob (v := .ref (f 138)) rfl T.q_NoRules.c rfl) pa_nil))) (pa_cons (pe_callB (JgX.call_isi3 (K := K)) (by rfl) T.z_isinstance (by decide +kernel) (pa_cons (pv 0) (pa_cons (pe_glob (v := .ref (f 140)) rfl T.q_NoRow.c rfl) pa_nil))) pa_nil)))))
      (pss_cons (ps_set (i := 1) sc_law_marks_last.nd rfl (.inl rfl) (pe_op op_cat (pv 1) (pe_lst (pa_cons (pe_callB (JgX.call_isi3 (K := K)) (by rfl) T.z_isinstance (by decide +kernel) (pa_cons (pv 0) (pa_cons (pe_glob (v := .ref (f 142)) rfl T.q_NoShelf.c rfl) pa_nil))) (pa_cons (pe_callB (JgX.call_isi3 (K := K)) (by rfl) T.z_isinstance (by decide +kernel) (pa_cons (pv 0) (pa_cons (pe_glob (v := .ref (f 144)) rfl T.q_NoDeed.c rfl) pa_nil))) (pa_cons (pe_callB (JgX.call_isi3 (K := K)) (by rfl) T.z_isinstance (by decide +kernel) (pa_cons (pv 0) (pa_cons (pe_glob (v := .ref (f 146)) rfl T.q_NoText.c rfl) pa_nil))) pa_nil))))))
      (pss_cons (ps_set (i := 1) sc_law_marks_last.nd rfl (.inl rfl) (pe_op op_cat (pv 1) (pe_lst (pa_cons (pe_callB (JgX.call_isi3 (K := K)) (by rfl) T.z_isinstance (by decide +kernel) (pa_cons (pv 0) (pa_cons (pe_glob (v := .ref (f 148)) rfl T.q_NoLine.c rfl) pa_nil))) (pa_cons (pe_callB (JgX.call_isi3 (K := K)) (by rfl) T.z_isinstance (by decide +kernel) (pa_cons (pv 0) (pa_cons (pe_glob (v := .ref (f 150)) rfl T.q_Unlike.c rfl) pa_nil))) (pa_cons (pe_callB (JgX.call_isi3 (K := K)) (by rfl) T.z_isinstance (by decide +kernel) (pa_cons (pv 0) (pa_cons (pe_glob (v := .ref (f 152)) rfl T.q_Twice.c rfl) pa_nil))) pa_nil))))))
      (pss_cons (ps_set (i := 1) sc_law_marks_last.nd rfl (.inl rfl) (pe_op op_cat (pv 1) (pe_lst (pa_cons (pe_callB (JgX.call_isi3 (K := K)) (by rfl) T.z_isinstance (by decide +kernel) (pa_cons (pv 0) (pa_cons (pe_glob (v := .ref (f 154)) rfl T.q_TooMany.c rfl) pa_nil))) (pa_cons (pe_callB (JgX.call_isi3 (K := K)) (by rfl) T.z_isinstance (by decide +kernel) (pa_cons (pv 0) (pa_cons (pe_glob (v := .ref (f 156)) rfl T.q_TooGreat.c rfl) pa_nil))) (pa_cons (pe_callB (JgX.call_isi3 (K := K)) (by rfl) T.z_isinstance (by decide +kernel) (pa_cons (pv 0) (pa_cons (pe_glob (v := .ref (f 158)) rfl T.q_NotThere.c rfl) pa_nil))) pa_nil))))))
      (pss_cons (ps_set (i := 1) sc_law_marks_last.nd rfl (.inl rfl) (pe_op op_cat (pv 1) (pe_lst (pa_cons (pe_callB (JgX.call_isi3 (K := K)) (by rfl) T.z_isinstance (by decide +kernel) (pa_cons (pv 0) (pa_cons (pe_glob (v := .ref (f 160)) rfl T.q_NoSpot.c rfl) pa_nil))) (pa_cons (pe_callB (JgX.call_isi3 (K := K)) (by rfl) T.z_isinstance (by decide +kernel) (pa_cons (pv 0) (pa_cons (pe_glob (v := .ref (f 162)) rfl T.q_NoMore.c rfl) pa_nil))) (pa_cons (pe_callB (JgX.call_isi3 (K := K)) (by rfl) T.z_isinstance (by decide +kernel) (pa_cons (pv 0) (pa_cons (pe_glob (v := .ref (f 164)) rfl T.q_Changed.c rfl) pa_nil))) pa_nil))))))
      (pss_cons (ps_set (i := 1) sc_law_marks_last.nd rfl (.inl rfl) (pe_op op_cat (pv 1) (pe_lst (pa_cons (pe_callB (JgX.call_isi3 (K := K)) (by rfl) T.z_isinstance (by decide +kernel) (pa_cons (pv 0) (pa_cons (pe_glob (v := .ref (f 166)) rfl T.q_Endless.c rfl) pa_nil))) pa_nil))))
      (pss_one (ps_ret (pv 1))))))))), ?_⟩
    have xa := T.xa i hi
    rw [T.ca i hi] at he
    have s0 : Same H H := fun _ _ e => e
    walk_at "go"
    refine JgX.g_isi3 he xa (.own _) (T.kit i 18 hi (by decide)) ?_
    walk_at "go"
    refine JgX.g_isi3 he xa (.own _) (T.kit i 19 hi (by decide)) ?_
    walk_at "go"
    refine JgX.g_isi3 he xa (.own _) (T.kit i 20 hi (by decide)) ?_
    walk_at "go"
    rename_i p0 h0
    replace he := he.new (o := .lst [V.bl (decide (i = 18)), V.bl (decide (i = 19)), V.bl (decide (i = 20))]) h0
    replace s0 := s0.trans (same_new (o := .lst [V.bl (decide (i = 18)), V.bl (decide (i = 19)), V.bl (decide (i = 20))]) h0)
    refine JgX.g_isi3 he xa (.own _) (T.kit i 21 hi (by decide)) ?_
    walk_at "go"
    refine JgX.g_isi3 he xa (.own _) (T.kit i 22 hi (by decide)) ?_
    walk_at "go"
    refine JgX.g_isi3 he xa (.own _) (T.kit i 23 hi (by decide)) ?_
    walk_at "go"
    rename_i b1 g1
    refine g_cat (by walk_at "hx") upd_same (Nat.le_trans (m := 100) (by simp) (by decide)) fun p1 h1 => ?_
    replace he := (he.new (o := .lst [V.bl (decide (i = 21)), V.bl (decide (i = 22)), V.bl (decide (i = 23))]) g1).new (o := .lst ([V.bl (decide (i = 18)), V.bl (decide (i = 19)), V.bl (decide (i = 20))] ++ [V.bl (decide (i = 21)), V.bl (decide (i = 22)), V.bl (decide (i = 23))])) h1
    replace s0 := (s0.trans (same_new (o := .lst [V.bl (decide (i = 21)), V.bl (decide (i = 22)), V.bl (decide (i = 23))]) g1)).trans (same_new (o := .lst ([V.bl (decide (i = 18)), V.bl (decide (i = 19)), V.bl (decide (i = 20))] ++ [V.bl (decide (i = 21)), V.bl (decide (i = 22)), V.bl (decide (i = 23))])) h1)
    walk_at "go"
    refine JgX.g_isi3 he xa (.own _) (T.kit i 24 hi (by decide)) ?_
    walk_at "go"
    refine JgX.g_isi3 he xa (.own _) (T.kit i 25 hi (by decide)) ?_
    walk_at "go"
    refine JgX.g_isi3 he xa (.own _) (T.kit i 26 hi (by decide)) ?_
    walk_at "go"
    rename_i b2 g2
    refine g_cat (by walk_at "hx") upd_same (Nat.le_trans (m := 100) (by simp) (by decide)) fun p2 h2 => ?_
    replace he := (he.new (o := .lst [V.bl (decide (i = 24)), V.bl (decide (i = 25)), V.bl (decide (i = 26))]) g2).new (o := .lst (([V.bl (decide (i = 18)), V.bl (decide (i = 19)), V.bl (decide (i = 20))] ++ [V.bl (decide (i = 21)), V.bl (decide (i = 22)), V.bl (decide (i = 23))]) ++ [V.bl (decide (i = 24)), V.bl (decide (i = 25)), V.bl (decide (i = 26))])) h2
    replace s0 := (s0.trans (same_new (o := .lst [V.bl (decide (i = 24)), V.bl (decide (i = 25)), V.bl (decide (i = 26))]) g2)).trans (same_new (o := .lst (([V.bl (decide (i = 18)), V.bl (decide (i = 19)), V.bl (decide (i = 20))] ++ [V.bl (decide (i = 21)), V.bl (decide (i = 22)), V.bl (decide (i = 23))]) ++ [V.bl (decide (i = 24)), V.bl (decide (i = 25)), V.bl (decide (i = 26))])) h2)
    walk_at "go"
    refine JgX.g_isi3 he xa (.own _) (T.kit i 27 hi (by decide)) ?_
    walk_at "go"
    refine JgX.g_isi3 he xa (.own _) (T.kit i 28 hi (by decide)) ?_
    walk_at "go"
    refine JgX.g_isi3 he xa (.own _) (T.kit i 29 hi (by decide)) ?_
    walk_at "go"
    rename_i b3 g3
    refine g_cat (by walk_at "hx") upd_same (Nat.le_trans (m := 100) (by simp) (by decide)) fun p3 h3 => ?_
    replace he := (he.new (o := .lst [V.bl (decide (i = 27)), V.bl (decide (i = 28)), V.bl (decide (i = 29))]) g3).new (o := .lst ((([V.bl (decide (i = 18)), V.bl (decide (i = 19)), V.bl (decide (i = 20))] ++ [V.bl (decide (i = 21)), V.bl (decide (i = 22)), V.bl (decide (i = 23))]) ++ [V.bl (decide (i = 24)), V.bl (decide (i = 25)), V.bl (decide (i = 26))]) ++ [V.bl (decide (i = 27)), V.bl (decide (i = 28)), V.bl (decide (i = 29))])) h3
    replace s0 := (s0.trans (same_new (o := .lst [V.bl (decide (i = 27)), V.bl (decide (i = 28)), V.bl (decide (i = 29))]) g3)).trans (same_new (o := .lst ((([V.bl (decide (i = 18)), V.bl (decide (i = 19)), V.bl (decide (i = 20))] ++ [V.bl (decide (i = 21)), V.bl (decide (i = 22)), V.bl (decide (i = 23))]) ++ [V.bl (decide (i = 24)), V.bl (decide (i = 25)), V.bl (decide (i = 26))]) ++ [V.bl (decide (i = 27)), V.bl (decide (i = 28)), V.bl (decide (i = 29))])) h3)
    walk_at "go"
    refine JgX.g_isi3 he xa (.own _) (T.kit i 30 hi (by decide)) ?_
    walk_at "go"
    refine JgX.g_isi3 he xa (.own _) (T.kit i 31 hi (by decide)) ?_
    walk_at "go"
    refine JgX.g_isi3 he xa (.own _) (T.kit i 32 hi (by decide)) ?_
    walk_at "go"
    rename_i b4 g4
    refine g_cat (by walk_at "hx") upd_same (Nat.le_trans (m := 100) (by simp) (by decide)) fun p4 h4 => ?_
    replace he := (he.new (o := .lst [V.bl (decide (i = 30)), V.bl (decide (i = 31)), V.bl (decide (i = 32))]) g4).new (o := .lst (((([V.bl (decide (i = 18)), V.bl (decide (i = 19)), V.bl (decide (i = 20))] ++ [V.bl (decide (i = 21)), V.bl (decide (i = 22)), V.bl (decide (i = 23))]) ++ [V.bl (decide (i = 24)), V.bl (decide (i = 25)), V.bl (decide (i = 26))]) ++ [V.bl (decide (i = 27)), V.bl (decide (i = 28)), V.bl (decide (i = 29))]) ++ [V.bl (decide (i = 30)), V.bl (decide (i = 31)), V.bl (decide (i = 32))])) h4
    replace s0 := (s0.trans (same_new (o := .lst [V.bl (decide (i = 30)), V.bl (decide (i = 31)), V.bl (decide (i = 32))]) g4)).trans (same_new (o := .lst (((([V.bl (decide (i = 18)), V.bl (decide (i = 19)), V.bl (decide (i = 20))] ++ [V.bl (decide (i = 21)), V.bl (decide (i = 22)), V.bl (decide (i = 23))]) ++ [V.bl (decide (i = 24)), V.bl (decide (i = 25)), V.bl (decide (i = 26))]) ++ [V.bl (decide (i = 27)), V.bl (decide (i = 28)), V.bl (decide (i = 29))]) ++ [V.bl (decide (i = 30)), V.bl (decide (i = 31)), V.bl (decide (i = 32))])) h4)
    walk_at "go"
    refine JgX.g_isi3 he xa (.own _) (T.kit i 33 hi (by decide)) ?_
    walk_at "go"
    rename_i b5 g5
    refine g_cat (by walk_at "hx") upd_same (Nat.le_trans (m := 100) (by simp) (by decide)) fun p5 h5 => ?_
    replace he := (he.new (o := .lst [V.bl (decide (i = 33))]) g5).new (o := .lst ((((([V.bl (decide (i = 18)), V.bl (decide (i = 19)), V.bl (decide (i = 20))] ++ [V.bl (decide (i = 21)), V.bl (decide (i = 22)), V.bl (decide (i = 23))]) ++ [V.bl (decide (i = 24)), V.bl (decide (i = 25)), V.bl (decide (i = 26))]) ++ [V.bl (decide (i = 27)), V.bl (decide (i = 28)), V.bl (decide (i = 29))]) ++ [V.bl (decide (i = 30)), V.bl (decide (i = 31)), V.bl (decide (i = 32))]) ++ [V.bl (decide (i = 33))])) h5
    replace s0 := (s0.trans (same_new (o := .lst [V.bl (decide (i = 33))]) g5)).trans (same_new (o := .lst ((((([V.bl (decide (i = 18)), V.bl (decide (i = 19)), V.bl (decide (i = 20))] ++ [V.bl (decide (i = 21)), V.bl (decide (i = 22)), V.bl (decide (i = 23))]) ++ [V.bl (decide (i = 24)), V.bl (decide (i = 25)), V.bl (decide (i = 26))]) ++ [V.bl (decide (i = 27)), V.bl (decide (i = 28)), V.bl (decide (i = 29))]) ++ [V.bl (decide (i = 30)), V.bl (decide (i = 31)), V.bl (decide (i = 32))]) ++ [V.bl (decide (i = 33))])) h5)
    walk_at "go"
    exact q _ _ s0 upd_same
end
section
variable {P : Program} {w : World} {K : PySem.W.Frag} {mg : Str → Option Value} {base : Heap} {f : Nat → Addr} {d : Nat → FuncData}
theorem ok_law_families (T : Txt P K mg f d) : FnOk P w K mg base CX0 1 (f 5) (d 5) ["_law_e"] (sp_law_families K) := by
  refine T.F_law_families.ok sc_law_families (fun vs H Q E h => ?_) (fun cdv A outer s H vs Q E hr h => ?_)
  · obtain ⟨v, i, rfl, ⟨hi, he⟩, q⟩ := h
    rfl
  · obtain ⟨v, i, rfl, ⟨hi, he⟩, q⟩ := h
    refine ⟨_, (pss_cons (ps_set (i := 1) sc_law_families.nd rfl (.inl rfl) (pe_lst (pa_cons (pe_callB (JgX.call_isi3 (K := K)) (by rfl) T.z_isinstance (by decide +kernel) (pa_cons (pv 0) (pa_cons (pe_glob (v := .ref (f 168)) rfl T.c_TermError rfl) pa_nil))) (pa_cons (pe_callB (JgX.call_isi3 (K := K)) (by rfl) T.z_isinstance (by decide +kernel) (pa_cons (pv 0) (pa_cons (pe_glob (v := .ref (f 170)) rfl T.c_Absent rfl) pa_nil))) (pa_cons (pe_callB (JgX.call_isi3 (K := K)) (by rfl) T.z_isinstance (by decide +kernel) (pa_cons (pv 0) (pa_cons (pe_glob (v := .ref (f 172)) rfl T.c_Ended rfl) pa_nil))) pa_nil)))))
      (pss_one (ps_ret (pe_op op_cat (pv 1) (pe_lst (pa_cons (pe_callB (JgX.call_isi3 (K := K)) (by rfl) T.z_isinstance (by decide +kernel) (pa_cons (pv 0) (pa_cons (pe_bltn (v := .ty "ValueError") (by rfl) T.z_ValueError (by decide +kernel) rfl) pa_nil))) (pa_cons (pe_callB (JgX.call_isi3 (K := K)) (by rfl) T.z_isinstance (by decide +kernel) (pa_cons (pv 0) (pa_cons (pe_bltn (v := .ty "KeyError") (by rfl) T.z_KeyError (by decide +kernel) rfl) pa_nil))) (pa_cons (pe_callB (JgX.call_isi3 (K := K)) (by rfl) T.z_isinstance (by decide +kernel) (pa_cons (pv 0) (pa_cons (pe_bltn (v := .ty "LookupError") (by rfl) T.z_LookupError (by decide +kernel) rfl) pa_nil))) pa_nil)))))))), ?_⟩
    have xa := T.xa i hi
    rw [T.ca i hi] at he
    walk_at "go"
    refine JgX.g_isi3 he xa (.own _) (T.kfm i 34 hi (by decide) (by decide)) ?_
    walk_at "go"
    refine JgX.g_isi3 he xa (.own _) (T.kfm i 35 hi (by decide) (by decide)) ?_
    walk_at "go"
    refine JgX.g_isi3 he xa (.own _) (T.kfm i 36 hi (by decide) (by decide)) ?_
    walk_at "go"
    rename_i p0 h0
    replace he := he.new (o := .lst [V.bl (decide (fam i = 34)), V.bl (decide (fam i = 35)), V.bl (decide (fam i = 36))]) h0
    refine JgX.g_isi3 he xa (.ty _) (T.ktV i hi) ?_
    walk_at "go"
    refine JgX.g_isi3 he xa (.ty _) (T.ktK i hi) ?_
    walk_at "go"
    refine JgX.g_isi3 he xa (.ty _) (T.ktL i hi) ?_
    walk_at "go"
    rename_i b1 g1
    refine g_cat (by walk_at "hx") upd_same (Nat.le_trans (m := 100) (by simp) (by decide)) fun p1 h1 => ?_
    walk_at "go"
    exact q _ _ (((same_new h0).trans (same_new g1)).trans (same_new h1)) upd_same
end
section
variable {P : Program} {w : World} {K : PySem.W.Frag} {mg : Str → Option Value} {base : Heap} {f : Nat → Addr} {d : Nat → FuncData}
theorem ok_law_family_of (T : Txt P K mg f d) : FnOk P w K mg base CX0 1 (f 6) (d 6) ["_law_place"] (sp_law_family_of K) := by
  refine T.F_law_family_of.ok sc_law_family_of (fun vs H Q E h => ?_) (fun cdv A outer s H vs Q E hr h => ?_)
  · obtain ⟨i, rfl, hi, q⟩ := h
    rfl
  · obtain ⟨i, rfl, hi, q⟩ := h
    refine ⟨_, (pss_cons (ps_if (pt_cmpR op_lt (pv 0) pe_int (nomark _)) (pss_one (ps_ret (pe_lst (pa_cons pe_bl (pa_cons pe_bl (pa_cons pe_bl (pa_cons pe_bl (pa_cons pe_bl (pa_cons pe_bl pa_nil))))))))) pss_nil)
      (pss_cons (ps_if (pt_cmpR op_lt (pv 0) pe_int (nomark _)) (pss_one (ps_ret (pe_lst (pa_cons pe_bl (pa_cons pe_bl (pa_cons pe_bl (pa_cons pe_bl (pa_cons pe_bl (pa_cons pe_bl pa_nil))))))))) pss_nil)
      (pss_one (ps_ret (pe_lst (pa_cons pe_bl (pa_cons pe_bl (pa_cons pe_bl (pa_cons pe_bl (pa_cons pe_bl (pa_cons pe_bl pa_nil))))))))))), ?_⟩
    walk_at "go"
    refine g_two (fun h => ?_) (fun h => ?_)
    · walk_at "go"
      rename_i p hp
      have e : fam i = 34 := by unfold fam; rw [if_pos (by omega)]
      refine q p _ (same_new hp) ?_
      rw [upd_same, famL, e]
      rfl
    · walk_at "go"
      refine g_two (fun h' => ?_) (fun h' => ?_)
      · walk_at "go"
        rename_i p hp
        have e : fam i = 35 := by unfold fam; rw [if_neg (by omega), if_pos (by omega)]
        refine q p _ (same_new hp) ?_
        rw [upd_same, famL, e]
        rfl
      · walk_at "go"
        rename_i p hp
        have e : fam i = 36 := by unfold fam; rw [if_neg (by omega), if_neg (by omega), if_pos (by omega)]
        refine q p _ (same_new hp) ?_
        rw [upd_same, famL, e]
        rfl
end
section
variable {P : Program} {w : World} {K : PySem.W.Frag} {mg : Str → Option Value} {base : Heap} {f : Nat → Addr} {d : Nat → FuncData}
theorem ok_law_made_first (T : Txt P K mg f d) : FnOk P w K mg base CX0 3 (f 7) (d 7) ["_law_one"] (sp_law_made_first K) := by
  refine T.F_law_made_first.ok sc_law_made_first (fun vs H Q E h => ?_) (fun cdv A outer s H vs Q E hr h => ?_)
  · obtain ⟨v, rfl, q⟩ := h
    rfl
  · obtain ⟨v, rfl, q⟩ := h
    refine ⟨_, (pss_cons (ps_set (i := 1) sc_law_made_first.nd rfl (.inl rfl) (pe_lst (pa_cons (JgX.pe_kxF JgX.mkValue T.q_NoName.x T.q_NoName.y.iC T.q_NoName.y.tI (JgX.keep_st (k := 0) (CX := CX0) JgX.xValue T.q_NoName.x T.q_NoName.y zx_NoName zy_NoName T.q_NoName.n T.opq T.z_super T.tp) (hr.mono (by decide)) (T.q_NoName.y.binds fun _ _ _ _ _ _ _ _ us hl => match us, hl with | [_, _], _ => rfl) rfl T.q_NoName.c (pv 0)) (pa_cons (JgX.pe_kxF JgX.mkValue T.q_NoWords.x T.q_NoWords.y.iC T.q_NoWords.y.tI (JgX.keep_st (k := 0) (CX := CX0) JgX.xValue T.q_NoWords.x T.q_NoWords.y zx_NoWords zy_NoWords T.q_NoWords.n T.opq T.z_super T.tp) (hr.mono (by decide)) (T.q_NoWords.y.binds fun _ _ _ _ _ _ _ _ us hl => match us, hl with | [_, _], _ => rfl) rfl T.q_NoWords.c (pv 0)) (pa_cons (JgX.pe_kxF JgX.mkValue T.q_NoSigns.x T.q_NoSigns.y.iC T.q_NoSigns.y.tI (JgX.keep_st (k := 0) (CX := CX0) JgX.xValue T.q_NoSigns.x T.q_NoSigns.y zx_NoSigns zy_NoSigns T.q_NoSigns.n T.opq T.z_super T.tp) (hr.mono (by decide)) (T.q_NoSigns.y.binds fun _ _ _ _ _ _ _ _ us hl => match us, hl with | [_, _], _ => rfl) rfl T.q_NoSigns.c (pv 0)) pa_nil)))))
      (pss_cons (ps_set (i := 1) sc_law_made_first.nd rfl (.inl rfl) (pe_op op_cat (pv 1) (pe_lst (pa_cons (JgX.pe_kxF JgX.mkValue T.q_NoSign.x T.q_NoSign.y.iC T.q_NoSign.y.tI (JgX.keep_st (k := 0) (CX := CX0) JgX.xValue T.q_NoSign.x T.q_NoSign.y zx_NoSign zy_NoSign T.q_NoSign.n T.opq T.z_super T.tp) (hr.mono (by decide)) (T.q_NoSign.y.binds fun _ _ _ _ _ _ _ _ us hl => match us, hl with | [_, _], _ => rfl) rfl T.q_NoSign.c (pv 0)) (pa_cons (JgX.pe_kxF JgX.mkValue T.q_NoWord.x T.q_NoWord.y.iC T.q_NoWord.y.tI (JgX.keep_st (k := 0) (CX := CX0) JgX.xValue T.q_NoWord.x T.q_NoWord.y zx_NoWord zy_NoWord T.q_NoWord.n T.opq T.z_super T.tp) (hr.mono (by decide)) (T.q_NoWord.y.binds fun _ _ _ _ _ _ _ _ us hl => match us, hl with | [_, _], _ => rfl) rfl T.q_NoWord.c (pv 0)) (pa_cons (JgX.pe_kxF JgX.mkValue T.q_Beyond.x T.q_Beyond.y.iC T.q_Beyond.y.tI (JgX.keep_st (k := 0) (CX := CX0) JgX.xValue T.q_Beyond.x T.q_Beyond.y zx_Beyond zy_Beyond T.q_Beyond.n T.opq T.z_super T.tp) (hr.mono (by decide)) (T.q_Beyond.y.binds fun _ _ _ _ _ _ _ _ us hl => match us, hl with | [_, _], _ => rfl) rfl T.q_Beyond.c (pv 0)) pa_nil))))))
      (pss_cons (ps_set (i := 1) sc_law_made_first.nd rfl (.inl rfl) (pe_op op_cat (pv 1) (pe_lst (pa_cons (JgX.pe_kxF JgX.mkValue T.q_Unended.x T.q_Unended.y.iC T.q_Unended.y.tI (JgX.keep_st (k := 0) (CX := CX0) JgX.xValue T.q_Unended.x T.q_Unended.y zx_Unended zy_Unended T.q_Unended.n T.opq T.z_super T.tp) (hr.mono (by decide)) (T.q_Unended.y.binds fun _ _ _ _ _ _ _ _ us hl => match us, hl with | [_, _], _ => rfl) rfl T.q_Unended.c (pv 0)) (pa_cons (JgX.pe_kxF JgX.mkValue T.q_NoTerm.x T.q_NoTerm.y.iC T.q_NoTerm.y.tI (JgX.keep_st (k := 0) (CX := CX0) JgX.xValue T.q_NoTerm.x T.q_NoTerm.y zx_NoTerm zy_NoTerm T.q_NoTerm.n T.opq T.z_super T.tp) (hr.mono (by decide)) (T.q_NoTerm.y.binds fun _ _ _ _ _ _ _ _ us hl => match us, hl with | [_, _], _ => rfl) rfl T.q_NoTerm.c (pv 0)) (pa_cons (JgX.pe_kxF JgX.mkValue T.q_NoTerms.x T.q_NoTerms.y.iC T.q_NoTerms.y.tI (JgX.keep_st (k := 0) (CX := CX0) JgX.xValue T.q_NoTerms.x T.q_NoTerms.y zx_NoTerms zy_NoTerms T.q_NoTerms.n T.opq T.z_super T.tp) (hr.mono (by decide)) (T.q_NoTerms.y.binds fun _ _ _ _ _ _ _ _ us hl => match us, hl with | [_, _], _ => rfl) rfl T.q_NoTerms.c (pv 0)) pa_nil))))))
      (pss_cons (ps_set (i := 1) sc_law_made_first.nd rfl (.inl rfl) (pe_op op_cat (pv 1) (pe_lst (pa_cons (JgX.pe_kxF JgX.mkValue T.q_NoLetter.x T.q_NoLetter.y.iC T.q_NoLetter.y.tI (JgX.keep_st (k := 0) (CX := CX0) JgX.xValue T.q_NoLetter.x T.q_NoLetter.y zx_NoLetter zy_NoLetter T.q_NoLetter.n T.opq T.z_super T.tp) (hr.mono (by decide)) (T.q_NoLetter.y.binds fun _ _ _ _ _ _ _ _ us hl => match us, hl with | [_, _], _ => rfl) rfl T.q_NoLetter.c (pv 0)) (pa_cons (JgX.pe_kxF JgX.mkValue T.q_NoPairs.x T.q_NoPairs.y.iC T.q_NoPairs.y.tI (JgX.keep_st (k := 0) (CX := CX0) JgX.xValue T.q_NoPairs.x T.q_NoPairs.y zx_NoPairs zy_NoPairs T.q_NoPairs.n T.opq T.z_super T.tp) (hr.mono (by decide)) (T.q_NoPairs.y.binds fun _ _ _ _ _ _ _ _ us hl => match us, hl with | [_, _], _ => rfl) rfl T.q_NoPairs.c (pv 0)) (pa_cons (JgX.pe_kxF JgX.mkValue T.q_NoPutting.x T.q_NoPutting.y.iC T.q_NoPutting.y.tI (JgX.keep_st (k := 0) (CX := CX0) JgX.xValue T.q_NoPutting.x T.q_NoPutting.y zx_NoPutting zy_NoPutting T.q_NoPutting.n T.opq T.z_super T.tp) (hr.mono (by decide)) (T.q_NoPutting.y.binds fun _ _ _ _ _ _ _ _ us hl => match us, hl with | [_, _], _ => rfl) rfl T.q_NoPutting.c (pv 0)) pa_nil))))))
      (pss_cons (ps_set (i := 1) sc_law_made_first.nd rfl (.inl rfl) (pe_op op_cat (pv 1) (pe_lst (pa_cons (JgX.pe_kxF JgX.mkValue T.q_NoWay.x T.q_NoWay.y.iC T.q_NoWay.y.tI (JgX.keep_st (k := 0) (CX := CX0) JgX.xValue T.q_NoWay.x T.q_NoWay.y zx_NoWay zy_NoWay T.q_NoWay.n T.opq T.z_super T.tp) (hr.mono (by decide)) (T.q_NoWay.y.binds fun _ _ _ _ _ _ _ _ us hl => match us, hl with | [_, _], _ => rfl) rfl T.q_NoWay.c (pv 0)) (pa_cons (JgX.pe_kxF JgX.mkValue T.q_NoNumber.x T.q_NoNumber.y.iC T.q_NoNumber.y.tI (JgX.keep_st (k := 0) (CX := CX0) JgX.xValue T.q_NoNumber.x T.q_NoNumber.y zx_NoNumber zy_NoNumber T.q_NoNumber.n T.opq T.z_super T.tp) (hr.mono (by decide)) (T.q_NoNumber.y.binds fun _ _ _ _ _ _ _ _ us hl => match us, hl with | [_, _], _ => rfl) rfl T.q_NoNumber.c (pv 0)) (pa_cons (JgX.pe_kxF JgX.mkValue T.q_NoTruth.x T.q_NoTruth.y.iC T.q_NoTruth.y.tI (JgX.keep_st (k := 0) (CX := CX0) JgX.xValue T.q_NoTruth.x T.q_NoTruth.y zx_NoTruth zy_NoTruth T.q_NoTruth.n T.opq T.z_super T.tp) (hr.mono (by decide)) (T.q_NoTruth.y.binds fun _ _ _ _ _ _ _ _ us hl => match us, hl with | [_, _], _ => rfl) rfl T.q_NoTruth.c (pv 0)) pa_nil))))))
      (pss_cons (ps_set (i := 1) sc_law_made_first.nd rfl (.inl rfl) (pe_op op_cat (pv 1) (pe_lst (pa_cons (JgX.pe_kxF JgX.mkValue T.q_NoNote.x T.q_NoNote.y.iC T.q_NoNote.y.tI (JgX.keep_st (k := 0) (CX := CX0) JgX.xValue T.q_NoNote.x T.q_NoNote.y zx_NoNote zy_NoNote T.q_NoNote.n T.opq T.z_super T.tp) (hr.mono (by decide)) (T.q_NoNote.y.binds fun _ _ _ _ _ _ _ _ us hl => match us, hl with | [_, _], _ => rfl) rfl T.q_NoNote.c (pv 0)) (pa_cons (JgX.pe_kxF JgX.mkValue T.q_NoList.x T.q_NoList.y.iC T.q_NoList.y.tI (JgX.keep_st (k := 0) (CX := CX0) JgX.xValue T.q_NoList.x T.q_NoList.y zx_NoList zy_NoList T.q_NoList.n T.opq T.z_super T.tp) (hr.mono (by decide)) (T.q_NoList.y.binds fun _ _ _ _ _ _ _ _ us hl => match us, hl with | [_, _], _ => rfl) rfl T.q_NoList.c (pv 0)) (pa_cons (JgX.pe_kxF JgX.mkValue T.q_NoAsk.x T.q_NoAsk.y.iC T.q_NoAsk.y.tI (JgX.keep_st (k := 0) (CX := CX0) JgX.xValue T.q_NoAsk.x T.q_NoAsk.y zx_NoAsk zy_NoAsk T.q_NoAsk.n T.opq T.z_super T.tp) (hr.mono (by decide)) (T.q_NoAsk.y.binds fun _ _ _ _ _ _ _ _ us hl => match us, hl with | [_, _], _ => rfl) rfl T.q_NoAsk.c (pv 0)) pa_nil))))))
      (pss_one (ps_ret (pv 1))))))))), ?_⟩
    have s0 : Same H H := fun _ _ e => e
    have R : MadeL K H [] 0 v := .nil
    walk_at "go"
    refine JgX.g_kxFV rfl fun a0 H0 n0 e0 m0 => ?_
    replace R : MadeL K H0 [V.ref a0] 0 v := R.snoc (m := 0) e0 rfl (made_of m0 (T.ca 0 (by decide)) rfl (by decide))
    replace s0 : Same H H0 := Same.trans s0 e0
    walk_at "go"
    refine JgX.g_kxFV rfl fun a1 H1 n1 e1 m1 => ?_
    replace R : MadeL K H1 [V.ref a0, V.ref a1] 0 v := R.snoc (m := 1) e1 rfl (made_of m1 (T.ca 1 (by decide)) rfl (by decide))
    replace s0 : Same H H1 := Same.trans s0 e1
    walk_at "go"
    refine JgX.g_kxFV rfl fun a2 H2 n2 e2 m2 => ?_
    replace R : MadeL K H2 [V.ref a0, V.ref a1, V.ref a2] 0 v := R.snoc (m := 2) e2 rfl (made_of m2 (T.ca 2 (by decide)) rfl (by decide))
    replace s0 : Same H H2 := Same.trans s0 e2
    walk_at "go"
    rename_i p0 h0
    replace R := R.same (same_new (o := .lst [V.ref a0, V.ref a1, V.ref a2]) h0)
    replace s0 := s0.trans (same_new (o := .lst [V.ref a0, V.ref a1, V.ref a2]) h0)
    have hp := upd_same (H := H2) (a := p0) (o := HO.lst [V.ref a0, V.ref a1, V.ref a2])
    refine JgX.g_kxFV rfl fun a3 H3 n3 e3 m3 => ?_
    replace R : MadeL K H3 [V.ref a0, V.ref a1, V.ref a2, V.ref a3] 0 v := R.snoc (m := 3) e3 rfl (made_of m3 (T.ca 3 (by decide)) rfl (by decide))
    replace hp := e3 _ _ hp
    replace s0 : Same H H3 := Same.trans s0 e3
    walk_at "go"
    refine JgX.g_kxFV rfl fun a4 H4 n4 e4 m4 => ?_
    replace R : MadeL K H4 [V.ref a0, V.ref a1, V.ref a2, V.ref a3, V.ref a4] 0 v := R.snoc (m := 4) e4 rfl (made_of m4 (T.ca 4 (by decide)) rfl (by decide))
    replace hp := e4 _ _ hp
    replace s0 : Same H H4 := Same.trans s0 e4
    walk_at "go"
    refine JgX.g_kxFV rfl fun a5 H5 n5 e5 m5 => ?_
    replace R : MadeL K H5 [V.ref a0, V.ref a1, V.ref a2, V.ref a3, V.ref a4, V.ref a5] 0 v := R.snoc (m := 5) e5 rfl (made_of m5 (T.ca 5 (by decide)) rfl (by decide))
    replace hp := e5 _ _ hp
    replace s0 : Same H H5 := Same.trans s0 e5
    walk_at "go"
    rename_i b1 g1
    refine g_cat (upd_keep g1 hp) upd_same (Nat.le_trans (m := 100) (by simp) (by decide)) fun p1 h1 => ?_
    replace R := (R.same (same_new (o := .lst [V.ref a3, V.ref a4, V.ref a5]) g1)).same (same_new (o := .lst [V.ref a0, V.ref a1, V.ref a2, V.ref a3, V.ref a4, V.ref a5]) h1)
    replace s0 := (s0.trans (same_new (o := .lst [V.ref a3, V.ref a4, V.ref a5]) g1)).trans (same_new (o := .lst [V.ref a0, V.ref a1, V.ref a2, V.ref a3, V.ref a4, V.ref a5]) h1)
    clear hp; have hp := upd_same (H := upd H5 b1 (.lst [V.ref a3, V.ref a4, V.ref a5])) (a := p1) (o := HO.lst [V.ref a0, V.ref a1, V.ref a2, V.ref a3, V.ref a4, V.ref a5])
    walk_at "go"
    refine JgX.g_kxFV rfl fun a6 H6 n6 e6 m6 => ?_
    replace R : MadeL K H6 [V.ref a0, V.ref a1, V.ref a2, V.ref a3, V.ref a4, V.ref a5, V.ref a6] 0 v := R.snoc (m := 6) e6 rfl (made_of m6 (T.ca 6 (by decide)) rfl (by decide))
    replace hp := e6 _ _ hp
    replace s0 : Same H H6 := Same.trans s0 e6
    walk_at "go"
    refine JgX.g_kxFV rfl fun a7 H7 n7 e7 m7 => ?_
    replace R : MadeL K H7 [V.ref a0, V.ref a1, V.ref a2, V.ref a3, V.ref a4, V.ref a5, V.ref a6, V.ref a7] 0 v := R.snoc (m := 7) e7 rfl (made_of m7 (T.ca 7 (by decide)) rfl (by decide))
    replace hp := e7 _ _ hp
    replace s0 : Same H H7 := Same.trans s0 e7
    walk_at "go"
    refine JgX.g_kxFV rfl fun a8 H8 n8 e8 m8 => ?_
    replace R : MadeL K H8 [V.ref a0, V.ref a1, V.ref a2, V.ref a3, V.ref a4, V.ref a5, V.ref a6, V.ref a7, V.ref a8] 0 v := R.snoc (m := 8) e8 rfl (made_of m8 (T.ca 8 (by decide)) rfl (by decide))
    replace hp := e8 _ _ hp
    replace s0 : Same H H8 := Same.trans s0 e8
    walk_at "go"
    rename_i b2 g2
    refine g_cat (upd_keep g2 hp) upd_same (Nat.le_trans (m := 100) (by simp) (by decide)) fun p2 h2 => ?_
    replace R := (R.same (same_new (o := .lst [V.ref a6, V.ref a7, V.ref a8]) g2)).same (same_new (o := .lst [V.ref a0, V.ref a1, V.ref a2, V.ref a3, V.ref a4, V.ref a5, V.ref a6, V.ref a7, V.ref a8]) h2)
    replace s0 := (s0.trans (same_new (o := .lst [V.ref a6, V.ref a7, V.ref a8]) g2)).trans (same_new (o := .lst [V.ref a0, V.ref a1, V.ref a2, V.ref a3, V.ref a4, V.ref a5, V.ref a6, V.ref a7, V.ref a8]) h2)
    clear hp; have hp := upd_same (H := upd H8 b2 (.lst [V.ref a6, V.ref a7, V.ref a8])) (a := p2) (o := HO.lst [V.ref a0, V.ref a1, V.ref a2, V.ref a3, V.ref a4, V.ref a5, V.ref a6, V.ref a7, V.ref a8])
    walk_at "go"
    refine JgX.g_kxFV rfl fun a9 H9 n9 e9 m9 => ?_
    replace R : MadeL K H9 [V.ref a0, V.ref a1, V.ref a2, V.ref a3, V.ref a4, V.ref a5, V.ref a6, V.ref a7, V.ref a8, V.ref a9] 0 v := R.snoc (m := 9) e9 rfl (made_of m9 (T.ca 9 (by decide)) rfl (by decide))
    replace hp := e9 _ _ hp
    replace s0 : Same H H9 := Same.trans s0 e9
    walk_at "go"
    refine JgX.g_kxFV rfl fun a10 H10 n10 e10 m10 => ?_
    replace R : MadeL K H10 [V.ref a0, V.ref a1, V.ref a2, V.ref a3, V.ref a4, V.ref a5, V.ref a6, V.ref a7, V.ref a8, V.ref a9, V.ref a10] 0 v := R.snoc (m := 10) e10 rfl (made_of m10 (T.ca 10 (by decide)) rfl (by decide))
    replace hp := e10 _ _ hp
    replace s0 : Same H H10 := Same.trans s0 e10
    walk_at "go"
    refine JgX.g_kxFV rfl fun a11 H11 n11 e11 m11 => ?_
    replace R : MadeL K H11 [V.ref a0, V.ref a1, V.ref a2, V.ref a3, V.ref a4, V.ref a5, V.ref a6, V.ref a7, V.ref a8, V.ref a9, V.ref a10, V.ref a11] 0 v := R.snoc (m := 11) e11 rfl (made_of m11 (T.ca 11 (by decide)) rfl (by decide))
    replace hp := e11 _ _ hp
    replace s0 : Same H H11 := Same.trans s0 e11
    walk_at "go"
    rename_i b3 g3
    refine g_cat (upd_keep g3 hp) upd_same (Nat.le_trans (m := 100) (by simp) (by decide)) fun p3 h3 => ?_
    replace R := (R.same (same_new (o := .lst [V.ref a9, V.ref a10, V.ref a11]) g3)).same (same_new (o := .lst [V.ref a0, V.ref a1, V.ref a2, V.ref a3, V.ref a4, V.ref a5, V.ref a6, V.ref a7, V.ref a8, V.ref a9, V.ref a10, V.ref a11]) h3)
    replace s0 := (s0.trans (same_new (o := .lst [V.ref a9, V.ref a10, V.ref a11]) g3)).trans (same_new (o := .lst [V.ref a0, V.ref a1, V.ref a2, V.ref a3, V.ref a4, V.ref a5, V.ref a6, V.ref a7, V.ref a8, V.ref a9, V.ref a10, V.ref a11]) h3)
    clear hp; have hp := upd_same (H := upd H11 b3 (.lst [V.ref a9, V.ref a10, V.ref a11])) (a := p3) (o := HO.lst [V.ref a0, V.ref a1, V.ref a2, V.ref a3, V.ref a4, V.ref a5, V.ref a6, V.ref a7, V.ref a8, V.ref a9, V.ref a10, V.ref a11])
    walk_at "go"
    refine JgX.g_kxFV rfl fun a12 H12 n12 e12 m12 => ?_
    replace R : MadeL K H12 [V.ref a0, V.ref a1, V.ref a2, V.ref a3, V.ref a4, V.ref a5, V.ref a6, V.ref a7, V.ref a8, V.ref a9, V.ref a10, V.ref a11, V.ref a12] 0 v := R.snoc (m := 12) e12 rfl (made_of m12 (T.ca 12 (by decide)) rfl (by decide))
    replace hp := e12 _ _ hp
    replace s0 : Same H H12 := Same.trans s0 e12
    walk_at "go"
    refine JgX.g_kxFV rfl fun a13 H13 n13 e13 m13 => ?_
    replace R : MadeL K H13 [V.ref a0, V.ref a1, V.ref a2, V.ref a3, V.ref a4, V.ref a5, V.ref a6, V.ref a7, V.ref a8, V.ref a9, V.ref a10, V.ref a11, V.ref a12, V.ref a13] 0 v := R.snoc (m := 13) e13 rfl (made_of m13 (T.ca 13 (by decide)) rfl (by decide))
    replace hp := e13 _ _ hp
    replace s0 : Same H H13 := Same.trans s0 e13
    walk_at "go"
    refine JgX.g_kxFV rfl fun a14 H14 n14 e14 m14 => ?_
    replace R : MadeL K H14 [V.ref a0, V.ref a1, V.ref a2, V.ref a3, V.ref a4, V.ref a5, V.ref a6, V.ref a7, V.ref a8, V.ref a9, V.ref a10, V.ref a11, V.ref a12, V.ref a13, V.ref a14] 0 v := R.snoc (m := 14) e14 rfl (made_of m14 (T.ca 14 (by decide)) rfl (by decide))
    replace hp := e14 _ _ hp
    replace s0 : Same H H14 := Same.trans s0 e14
    walk_at "go"
    rename_i b4 g4
    refine g_cat (upd_keep g4 hp) upd_same (Nat.le_trans (m := 100) (by simp) (by decide)) fun p4 h4 => ?_
    replace R := (R.same (same_new (o := .lst [V.ref a12, V.ref a13, V.ref a14]) g4)).same (same_new (o := .lst [V.ref a0, V.ref a1, V.ref a2, V.ref a3, V.ref a4, V.ref a5, V.ref a6, V.ref a7, V.ref a8, V.ref a9, V.ref a10, V.ref a11, V.ref a12, V.ref a13, V.ref a14]) h4)
    replace s0 := (s0.trans (same_new (o := .lst [V.ref a12, V.ref a13, V.ref a14]) g4)).trans (same_new (o := .lst [V.ref a0, V.ref a1, V.ref a2, V.ref a3, V.ref a4, V.ref a5, V.ref a6, V.ref a7, V.ref a8, V.ref a9, V.ref a10, V.ref a11, V.ref a12, V.ref a13, V.ref a14]) h4)
    clear hp; have hp := upd_same (H := upd H14 b4 (.lst [V.ref a12, V.ref a13, V.ref a14])) (a := p4) (o := HO.lst [V.ref a0, V.ref a1, V.ref a2, V.ref a3, V.ref a4, V.ref a5, V.ref a6, V.ref a7, V.ref a8, V.ref a9, V.ref a10, V.ref a11, V.ref a12, V.ref a13, V.ref a14])
    walk_at "go"
    refine JgX.g_kxFV rfl fun a15 H15 n15 e15 m15 => ?_
    replace R : MadeL K H15 [V.ref a0, V.ref a1, V.ref a2, V.ref a3, V.ref a4, V.ref a5, V.ref a6, V.ref a7, V.ref a8, V.ref a9, V.ref a10, V.ref a11, V.ref a12, V.ref a13, V.ref a14, V.ref a15] 0 v := R.snoc (m := 15) e15 rfl (made_of m15 (T.ca 15 (by decide)) rfl (by decide))
    replace hp := e15 _ _ hp
    replace s0 : Same H H15 := Same.trans s0 e15
    walk_at "go"
    refine JgX.g_kxFV rfl fun a16 H16 n16 e16 m16 => ?_
    replace R : MadeL K H16 [V.ref a0, V.ref a1, V.ref a2, V.ref a3, V.ref a4, V.ref a5, V.ref a6, V.ref a7, V.ref a8, V.ref a9, V.ref a10, V.ref a11, V.ref a12, V.ref a13, V.ref a14, V.ref a15, V.ref a16] 0 v := R.snoc (m := 16) e16 rfl (made_of m16 (T.ca 16 (by decide)) rfl (by decide))
    replace hp := e16 _ _ hp
    replace s0 : Same H H16 := Same.trans s0 e16
    walk_at "go"
    refine JgX.g_kxFV rfl fun a17 H17 n17 e17 m17 => ?_
    replace R : MadeL K H17 [V.ref a0, V.ref a1, V.ref a2, V.ref a3, V.ref a4, V.ref a5, V.ref a6, V.ref a7, V.ref a8, V.ref a9, V.ref a10, V.ref a11, V.ref a12, V.ref a13, V.ref a14, V.ref a15, V.ref a16, V.ref a17] 0 v := R.snoc (m := 17) e17 rfl (made_of m17 (T.ca 17 (by decide)) rfl (by decide))
    replace hp := e17 _ _ hp
    replace s0 : Same H H17 := Same.trans s0 e17
    walk_at "go"
    rename_i b5 g5
    refine g_cat (upd_keep g5 hp) upd_same (Nat.le_trans (m := 100) (by simp) (by decide)) fun p5 h5 => ?_
    replace R := (R.same (same_new (o := .lst [V.ref a15, V.ref a16, V.ref a17]) g5)).same (same_new (o := .lst [V.ref a0, V.ref a1, V.ref a2, V.ref a3, V.ref a4, V.ref a5, V.ref a6, V.ref a7, V.ref a8, V.ref a9, V.ref a10, V.ref a11, V.ref a12, V.ref a13, V.ref a14, V.ref a15, V.ref a16, V.ref a17]) h5)
    replace s0 := (s0.trans (same_new (o := .lst [V.ref a15, V.ref a16, V.ref a17]) g5)).trans (same_new (o := .lst [V.ref a0, V.ref a1, V.ref a2, V.ref a3, V.ref a4, V.ref a5, V.ref a6, V.ref a7, V.ref a8, V.ref a9, V.ref a10, V.ref a11, V.ref a12, V.ref a13, V.ref a14, V.ref a15, V.ref a16, V.ref a17]) h5)
    walk_at "go"
    exact q _ _ _ s0 upd_same rfl R
end
section
variable {P : Program} {w : World} {K : PySem.W.Frag} {mg : Str → Option Value} {base : Heap} {f : Nat → Addr} {d : Nat → FuncData}
theorem ok_law_made_last (T : Txt P K mg f d) : FnOk P w K mg base CX0 3 (f 8) (d 8) ["_law_one"] (sp_law_made_last K) := by
  refine T.F_law_made_last.ok sc_law_made_last (fun vs H Q E h => ?_) (fun cdv A outer s H vs Q E hr h => ?_)
  · obtain ⟨v, rfl, q⟩ := h
    rfl
  · obtain ⟨v, rfl, q⟩ := h
    refine ⟨_, (pss_cons (ps_set (i := 1) sc_law_made_last.nd rfl (.inl rfl) (pe_lst (pa_cons (JgX.pe_kxF JgX.mkValue T.q_NoRule.x T.q_NoRule.y.iC T.q_NoRule.y.tI (JgX.keep_st (k := 0) (CX := CX0) JgX.xValue T.q_NoRule.x T.q_NoRule.y zx_NoRule zy_NoRule T.q_NoRule.n T.opq T.z_super T.tp) (hr.mono (by decide)) (T.q_NoRule.y.binds fun _ _ _ _ _ _ _ _ us hl => match us, hl with | [_, _], _ => rfl) rfl T.q_NoRule.c (pv 0)) (pa_cons (JgX.pe_kxF JgX.mkValue T.q_NoRules.x T.q_NoRules.y.iC T.q_NoRules.y.tI (JgX.keep_st (k := 0) (CX := CX0) JgX.xValue T.q_NoRules.x T.q_NoRules.y zx_NoRules zy_NoRules T.q_NoRules.n T.opq T.z_super T.tp) (hr.mono (by decide)) (T.q_NoRules.y.binds fun _ _ _ _ _ _ _ _ us hl => match us, hl with | [_, _], _ => rfl) rfl T.q_NoRules.c (pv 0)) (pa_cons (JgX.pe_kxF JgX.mkValue T.q_NoRow.x T.q_NoRow.y.iC T.q_NoRow.y.tI (JgX.keep_st (k := 0) (CX := CX0) JgX.xValue T.q_NoRow.x T.q_NoRow.y zx_NoRow zy_NoRow T.q_NoRow.n T.opq T.z_super T.tp) (hr.mono (by decide)) (T.q_NoRow.y.binds fun _ _ _ _ _ _ _ _ us hl => match us, hl with | [_, _], _ => rfl) rfl T.q_NoRow.c (pv 0)) pa_nil)))))
      (pss_cons (ps_set (i := 1) sc_law_made_last.nd rfl (.inl rfl) (pe_op op_cat (pv 1) (pe_lst (pa_cons (JgX.pe_kxF JgX.mkValue T.q_NoShelf.x T.q_NoShelf.y.iC T.q_NoShelf.y.tI (JgX.keep_st (k := 0) (CX := CX0) JgX.xValue T.q_NoShelf.x T.q_NoShelf.y zx_NoShelf zy_NoShelf T.q_NoShelf.n T.opq T.z_super T.tp) (hr.mono (by decide)) (T.q_NoShelf.y.binds fun _ _ _ _ _ _ _ _ us hl => match us, hl with | [_, _], _ => rfl) rfl T.q_NoShelf.c (pv 0)) (pa_cons (JgX.pe_kxF JgX.mkValue T.q_NoDeed.x T.q_NoDeed.y.iC T.q_NoDeed.y.tI (JgX.keep_st (k := 0) (CX := CX0) JgX.xValue T.q_NoDeed.x T.q_NoDeed.y zx_NoDeed zy_NoDeed T.q_NoDeed.n T.opq T.z_super T.tp) (hr.mono (by decide)) (T.q_NoDeed.y.binds fun _ _ _ _ _ _ _ _ us hl => match us, hl with | [_, _], _ => rfl) rfl T.q_NoDeed.c (pv 0)) (pa_cons (JgX.pe_kxF JgX.mkValue T.q_NoText.x T.q_NoText.y.iC T.q_NoText.y.tI (JgX.keep_st (k := 0) (CX := CX0) JgX.xValue T.q_NoText.x T.q_NoText.y zx_NoText zy_NoText T.q_NoText.n T.opq T.z_super T.tp) (hr.mono (by decide)) (T.q_NoText.y.binds fun _ _ _ _ _ _ _ _ us hl => match us, hl with | [_, _], _ => rfl) rfl T.q_NoText.c (pv 0)) pa_nil))))))
      (pss_cons (ps_set (i := 1) sc_law_made_last.nd rfl (.inl rfl) (pe_op op_cat (pv 1) (pe_lst (pa_cons (JgX.pe_kxF JgX.mkValue T.q_NoLine.x T.q_NoLine.y.iC T.q_NoLine.y.tI (JgX.keep_st (k := 0) (CX := CX0) JgX.xValue T.q_NoLine.x T.q_NoLine.y zx_NoLine zy_NoLine T.q_NoLine.n T.opq T.z_super T.tp) (hr.mono (by decide)) (T.q_NoLine.y.binds fun _ _ _ _ _ _ _ _ us hl => match us, hl with | [_, _], _ => rfl) rfl T.q_NoLine.c (pv 0)) (pa_cons (JgX.pe_kxF JgX.mkValue T.q_Unlike.x T.q_Unlike.y.iC T.q_Unlike.y.tI (JgX.keep_st (k := 0) (CX := CX0) JgX.xValue T.q_Unlike.x T.q_Unlike.y zx_Unlike zy_Unlike T.q_Unlike.n T.opq T.z_super T.tp) (hr.mono (by decide)) (T.q_Unlike.y.binds fun _ _ _ _ _ _ _ _ us hl => match us, hl with | [_, _], _ => rfl) rfl T.q_Unlike.c (pv 0)) (pa_cons (JgX.pe_kxF JgX.mkValue T.q_Twice.x T.q_Twice.y.iC T.q_Twice.y.tI (JgX.keep_st (k := 0) (CX := CX0) JgX.xValue T.q_Twice.x T.q_Twice.y zx_Twice zy_Twice T.q_Twice.n T.opq T.z_super T.tp) (hr.mono (by decide)) (T.q_Twice.y.binds fun _ _ _ _ _ _ _ _ us hl => match us, hl with | [_, _], _ => rfl) rfl T.q_Twice.c (pv 0)) pa_nil))))))
      (pss_cons (ps_set (i := 1) sc_law_made_last.nd rfl (.inl rfl) (pe_op op_cat (pv 1) (pe_lst (pa_cons (JgX.pe_kxF JgX.mkValue T.q_TooMany.x T.q_TooMany.y.iC T.q_TooMany.y.tI (JgX.keep_st (k := 0) (CX := CX0) JgX.xValue T.q_TooMany.x T.q_TooMany.y zx_TooMany zy_TooMany T.q_TooMany.n T.opq T.z_super T.tp) (hr.mono (by decide)) (T.q_TooMany.y.binds fun _ _ _ _ _ _ _ _ us hl => match us, hl with | [_, _], _ => rfl) rfl T.q_TooMany.c (pv 0)) (pa_cons (JgX.pe_kxF JgX.mkValue T.q_TooGreat.x T.q_TooGreat.y.iC T.q_TooGreat.y.tI (JgX.keep_st (k := 0) (CX := CX0) JgX.xValue T.q_TooGreat.x T.q_TooGreat.y zx_TooGreat zy_TooGreat T.q_TooGreat.n T.opq T.z_super T.tp) (hr.mono (by decide)) (T.q_TooGreat.y.binds fun _ _ _ _ _ _ _ _ us hl => match us, hl with | [_, _], _ => rfl) rfl T.q_TooGreat.c (pv 0)) (pa_cons (JgX.pe_kxF JgX.mkKey T.q_NotThere.x T.q_NotThere.y.iC T.q_NotThere.y.tI (JgX.keep_st (k := 0) (CX := CX0) JgX.xKey T.q_NotThere.x T.q_NotThere.y zx_NotThere zy_NotThere T.q_NotThere.n T.opq T.z_super T.tp) (hr.mono (by decide)) (T.q_NotThere.y.binds fun _ _ _ _ _ _ _ _ us hl => match us, hl with | [_, _], _ => rfl) rfl T.q_NotThere.c (pv 0)) pa_nil))))))
      (pss_cons (ps_set (i := 1) sc_law_made_last.nd rfl (.inl rfl) (pe_op op_cat (pv 1) (pe_lst (pa_cons (JgX.pe_kxF JgX.mkKey T.q_NoSpot.x T.q_NoSpot.y.iC T.q_NoSpot.y.tI (JgX.keep_st (k := 0) (CX := CX0) JgX.xKey T.q_NoSpot.x T.q_NoSpot.y zx_NoSpot zy_NoSpot T.q_NoSpot.n T.opq T.z_super T.tp) (hr.mono (by decide)) (T.q_NoSpot.y.binds fun _ _ _ _ _ _ _ _ us hl => match us, hl with | [_, _], _ => rfl) rfl T.q_NoSpot.c (pv 0)) (pa_cons (JgX.pe_no JgX.mkLookup T.q_NoMore.x T.q_NoMore.y.iC T.q_NoMore.y.tI (JgX.no_st (k := 0) (CX := CX0) JgX.xLookup T.q_NoMore.x T.q_NoMore.y zn_NoMore T.opq T.z_super T.tp) (hr.mono (by decide)) (T.q_NoMore.y.binds fun _ _ _ _ _ _ _ _ us hl => match us, hl with | [_], _ => rfl) rfl T.q_NoMore.c) (pa_cons (JgX.pe_kxF JgX.mkLookup T.q_Changed.x T.q_Changed.y.iC T.q_Changed.y.tI (JgX.keep_st (k := 0) (CX := CX0) JgX.xLookup T.q_Changed.x T.q_Changed.y zx_Changed zy_Changed T.q_Changed.n T.opq T.z_super T.tp) (hr.mono (by decide)) (T.q_Changed.y.binds fun _ _ _ _ _ _ _ _ us hl => match us, hl with | [_, _], _ => rfl) rfl T.q_Changed.c (pv 0)) pa_nil))))))
      (pss_cons (ps_set (i := 1) sc_law_made_last.nd rfl (.inl rfl) (pe_op op_cat (pv 1) (pe_lst (pa_cons (JgX.pe_kxF JgX.mkLookup T.q_Endless.x T.q_Endless.y.iC T.q_Endless.y.tI (JgX.keep_st (k := 0) (CX := CX0) JgX.xLookup T.q_Endless.x T.q_Endless.y zx_Endless zy_Endless T.q_Endless.n T.opq T.z_super T.tp) (hr.mono (by decide)) (T.q_Endless.y.binds fun _ _ _ _ _ _ _ _ us hl => match us, hl with | [_, _], _ => rfl) rfl T.q_Endless.c (pv 0)) pa_nil))))
      (pss_one (ps_ret (pv 1))))))))), ?_⟩
    have s0 : Same H H := fun _ _ e => e
    have R : MadeL K H [] 18 v := .nil
    walk_at "go"
    refine JgX.g_kxFV rfl fun a18 H18 n18 e18 m18 => ?_
    replace R : MadeL K H18 [V.ref a18] 18 v := R.snoc (m := 18) e18 rfl (made_of m18 (T.ca 18 (by decide)) rfl (by decide))
    replace s0 : Same H H18 := Same.trans s0 e18
    walk_at "go"
    refine JgX.g_kxFV rfl fun a19 H19 n19 e19 m19 => ?_
    replace R : MadeL K H19 [V.ref a18, V.ref a19] 18 v := R.snoc (m := 19) e19 rfl (made_of m19 (T.ca 19 (by decide)) rfl (by decide))
    replace s0 : Same H H19 := Same.trans s0 e19
    walk_at "go"
    refine JgX.g_kxFV rfl fun a20 H20 n20 e20 m20 => ?_
    replace R : MadeL K H20 [V.ref a18, V.ref a19, V.ref a20] 18 v := R.snoc (m := 20) e20 rfl (made_of m20 (T.ca 20 (by decide)) rfl (by decide))
    replace s0 : Same H H20 := Same.trans s0 e20
    walk_at "go"
    rename_i p0 h0
    replace R := R.same (same_new (o := .lst [V.ref a18, V.ref a19, V.ref a20]) h0)
    replace s0 := s0.trans (same_new (o := .lst [V.ref a18, V.ref a19, V.ref a20]) h0)
    have hp := upd_same (H := H20) (a := p0) (o := HO.lst [V.ref a18, V.ref a19, V.ref a20])
    refine JgX.g_kxFV rfl fun a21 H21 n21 e21 m21 => ?_
    replace R : MadeL K H21 [V.ref a18, V.ref a19, V.ref a20, V.ref a21] 18 v := R.snoc (m := 21) e21 rfl (made_of m21 (T.ca 21 (by decide)) rfl (by decide))
    replace hp := e21 _ _ hp
    replace s0 : Same H H21 := Same.trans s0 e21
    walk_at "go"
    refine JgX.g_kxFV rfl fun a22 H22 n22 e22 m22 => ?_
    replace R : MadeL K H22 [V.ref a18, V.ref a19, V.ref a20, V.ref a21, V.ref a22] 18 v := R.snoc (m := 22) e22 rfl (made_of m22 (T.ca 22 (by decide)) rfl (by decide))
    replace hp := e22 _ _ hp
    replace s0 : Same H H22 := Same.trans s0 e22
    walk_at "go"
    refine JgX.g_kxFV rfl fun a23 H23 n23 e23 m23 => ?_
    replace R : MadeL K H23 [V.ref a18, V.ref a19, V.ref a20, V.ref a21, V.ref a22, V.ref a23] 18 v := R.snoc (m := 23) e23 rfl (made_of m23 (T.ca 23 (by decide)) rfl (by decide))
    replace hp := e23 _ _ hp
    replace s0 : Same H H23 := Same.trans s0 e23
    walk_at "go"
    rename_i b1 g1
    refine g_cat (upd_keep g1 hp) upd_same (Nat.le_trans (m := 100) (by simp) (by decide)) fun p1 h1 => ?_
    replace R := (R.same (same_new (o := .lst [V.ref a21, V.ref a22, V.ref a23]) g1)).same (same_new (o := .lst [V.ref a18, V.ref a19, V.ref a20, V.ref a21, V.ref a22, V.ref a23]) h1)
    replace s0 := (s0.trans (same_new (o := .lst [V.ref a21, V.ref a22, V.ref a23]) g1)).trans (same_new (o := .lst [V.ref a18, V.ref a19, V.ref a20, V.ref a21, V.ref a22, V.ref a23]) h1)
    clear hp; have hp := upd_same (H := upd H23 b1 (.lst [V.ref a21, V.ref a22, V.ref a23])) (a := p1) (o := HO.lst [V.ref a18, V.ref a19, V.ref a20, V.ref a21, V.ref a22, V.ref a23])
    walk_at "go"
    refine JgX.g_kxFV rfl fun a24 H24 n24 e24 m24 => ?_
    replace R : MadeL K H24 [V.ref a18, V.ref a19, V.ref a20, V.ref a21, V.ref a22, V.ref a23, V.ref a24] 18 v := R.snoc (m := 24) e24 rfl (made_of m24 (T.ca 24 (by decide)) rfl (by decide))
    replace hp := e24 _ _ hp
    replace s0 : Same H H24 := Same.trans s0 e24
    walk_at "go"
    refine JgX.g_kxFV rfl fun a25 H25 n25 e25 m25 => ?_
    replace R : MadeL K H25 [V.ref a18, V.ref a19, V.ref a20, V.ref a21, V.ref a22, V.ref a23, V.ref a24, V.ref a25] 18 v := R.snoc (m := 25) e25 rfl (made_of m25 (T.ca 25 (by decide)) rfl (by decide))
    replace hp := e25 _ _ hp
    replace s0 : Same H H25 := Same.trans s0 e25
    walk_at "go"
    refine JgX.g_kxFV rfl fun a26 H26 n26 e26 m26 => ?_
    replace R : MadeL K H26 [V.ref a18, V.ref a19, V.ref a20, V.ref a21, V.ref a22, V.ref a23, V.ref a24, V.ref a25, V.ref a26] 18 v := R.snoc (m := 26) e26 rfl (made_of m26 (T.ca 26 (by decide)) rfl (by decide))
    replace hp := e26 _ _ hp
    replace s0 : Same H H26 := Same.trans s0 e26
    walk_at "go"
    rename_i b2 g2
    refine g_cat (upd_keep g2 hp) upd_same (Nat.le_trans (m := 100) (by simp) (by decide)) fun p2 h2 => ?_
    replace R := (R.same (same_new (o := .lst [V.ref a24, V.ref a25, V.ref a26]) g2)).same (same_new (o := .lst [V.ref a18, V.ref a19, V.ref a20, V.ref a21, V.ref a22, V.ref a23, V.ref a24, V.ref a25, V.ref a26]) h2)
    replace s0 := (s0.trans (same_new (o := .lst [V.ref a24, V.ref a25, V.ref a26]) g2)).trans (same_new (o := .lst [V.ref a18, V.ref a19, V.ref a20, V.ref a21, V.ref a22, V.ref a23, V.ref a24, V.ref a25, V.ref a26]) h2)
    clear hp; have hp := upd_same (H := upd H26 b2 (.lst [V.ref a24, V.ref a25, V.ref a26])) (a := p2) (o := HO.lst [V.ref a18, V.ref a19, V.ref a20, V.ref a21, V.ref a22, V.ref a23, V.ref a24, V.ref a25, V.ref a26])
    walk_at "go"
    refine JgX.g_kxFV rfl fun a27 H27 n27 e27 m27 => ?_
    replace R : MadeL K H27 [V.ref a18, V.ref a19, V.ref a20, V.ref a21, V.ref a22, V.ref a23, V.ref a24, V.ref a25, V.ref a26, V.ref a27] 18 v := R.snoc (m := 27) e27 rfl (made_of m27 (T.ca 27 (by decide)) rfl (by decide))
    replace hp := e27 _ _ hp
    replace s0 : Same H H27 := Same.trans s0 e27
    walk_at "go"
    refine JgX.g_kxFV rfl fun a28 H28 n28 e28 m28 => ?_
    replace R : MadeL K H28 [V.ref a18, V.ref a19, V.ref a20, V.ref a21, V.ref a22, V.ref a23, V.ref a24, V.ref a25, V.ref a26, V.ref a27, V.ref a28] 18 v := R.snoc (m := 28) e28 rfl (made_of m28 (T.ca 28 (by decide)) rfl (by decide))
    replace hp := e28 _ _ hp
    replace s0 : Same H H28 := Same.trans s0 e28
    walk_at "go"
    refine JgX.g_kxFV rfl fun a29 H29 n29 e29 m29 => ?_
    replace R : MadeL K H29 [V.ref a18, V.ref a19, V.ref a20, V.ref a21, V.ref a22, V.ref a23, V.ref a24, V.ref a25, V.ref a26, V.ref a27, V.ref a28, V.ref a29] 18 v := R.snoc (m := 29) e29 rfl (made_of m29 (T.ca 29 (by decide)) rfl (by decide))
    replace hp := e29 _ _ hp
    replace s0 : Same H H29 := Same.trans s0 e29
    walk_at "go"
    rename_i b3 g3
    refine g_cat (upd_keep g3 hp) upd_same (Nat.le_trans (m := 100) (by simp) (by decide)) fun p3 h3 => ?_
    replace R := (R.same (same_new (o := .lst [V.ref a27, V.ref a28, V.ref a29]) g3)).same (same_new (o := .lst [V.ref a18, V.ref a19, V.ref a20, V.ref a21, V.ref a22, V.ref a23, V.ref a24, V.ref a25, V.ref a26, V.ref a27, V.ref a28, V.ref a29]) h3)
    replace s0 := (s0.trans (same_new (o := .lst [V.ref a27, V.ref a28, V.ref a29]) g3)).trans (same_new (o := .lst [V.ref a18, V.ref a19, V.ref a20, V.ref a21, V.ref a22, V.ref a23, V.ref a24, V.ref a25, V.ref a26, V.ref a27, V.ref a28, V.ref a29]) h3)
    clear hp; have hp := upd_same (H := upd H29 b3 (.lst [V.ref a27, V.ref a28, V.ref a29])) (a := p3) (o := HO.lst [V.ref a18, V.ref a19, V.ref a20, V.ref a21, V.ref a22, V.ref a23, V.ref a24, V.ref a25, V.ref a26, V.ref a27, V.ref a28, V.ref a29])
    walk_at "go"
    refine JgX.g_kxFV rfl fun a30 H30 n30 e30 m30 => ?_
    replace R : MadeL K H30 [V.ref a18, V.ref a19, V.ref a20, V.ref a21, V.ref a22, V.ref a23, V.ref a24, V.ref a25, V.ref a26, V.ref a27, V.ref a28, V.ref a29, V.ref a30] 18 v := R.snoc (m := 30) e30 rfl (made_of m30 (T.ca 30 (by decide)) rfl (by decide))
    replace hp := e30 _ _ hp
    replace s0 : Same H H30 := Same.trans s0 e30
    walk_at "go"
    intro a31 n31
    replace R : MadeL K _ [V.ref a18, V.ref a19, V.ref a20, V.ref a21, V.ref a22, V.ref a23, V.ref a24, V.ref a25, V.ref a26, V.ref a27, V.ref a28, V.ref a29, V.ref a30, V.ref a31] 18 v := R.snoc (m := 31) (same_new (o := exo a31 (f 162) none) n31) rfl ⟨a31, rfl, Or.inl ⟨rfl, by rw [T.ca 31 (by decide)]; exact upd_same⟩⟩
    replace hp := upd_keep (u := exo a31 (f 162) none) n31 hp
    replace s0 := s0.trans (same_new (o := exo a31 (f 162) none) n31)
    walk_at "go"
    refine JgX.g_kxFV rfl fun a32 H32 n32 e32 m32 => ?_
    replace R : MadeL K H32 [V.ref a18, V.ref a19, V.ref a20, V.ref a21, V.ref a22, V.ref a23, V.ref a24, V.ref a25, V.ref a26, V.ref a27, V.ref a28, V.ref a29, V.ref a30, V.ref a31, V.ref a32] 18 v := R.snoc (m := 32) e32 rfl (made_of m32 (T.ca 32 (by decide)) rfl (by decide))
    replace hp := e32 _ _ hp
    replace s0 : Same H H32 := Same.trans s0 e32
    walk_at "go"
    rename_i b4 g4
    refine g_cat (upd_keep g4 hp) upd_same (Nat.le_trans (m := 100) (by simp) (by decide)) fun p4 h4 => ?_
    replace R := (R.same (same_new (o := .lst [V.ref a30, V.ref a31, V.ref a32]) g4)).same (same_new (o := .lst [V.ref a18, V.ref a19, V.ref a20, V.ref a21, V.ref a22, V.ref a23, V.ref a24, V.ref a25, V.ref a26, V.ref a27, V.ref a28, V.ref a29, V.ref a30, V.ref a31, V.ref a32]) h4)
    replace s0 := (s0.trans (same_new (o := .lst [V.ref a30, V.ref a31, V.ref a32]) g4)).trans (same_new (o := .lst [V.ref a18, V.ref a19, V.ref a20, V.ref a21, V.ref a22, V.ref a23, V.ref a24, V.ref a25, V.ref a26, V.ref a27, V.ref a28, V.ref a29, V.ref a30, V.ref a31, V.ref a32]) h4)
    clear hp; have hp := upd_same (H := upd H32 b4 (.lst [V.ref a30, V.ref a31, V.ref a32])) (a := p4) (o := HO.lst [V.ref a18, V.ref a19, V.ref a20, V.ref a21, V.ref a22, V.ref a23, V.ref a24, V.ref a25, V.ref a26, V.ref a27, V.ref a28, V.ref a29, V.ref a30, V.ref a31, V.ref a32])
    walk_at "go"
    refine JgX.g_kxFV rfl fun a33 H33 n33 e33 m33 => ?_
    replace R : MadeL K H33 [V.ref a18, V.ref a19, V.ref a20, V.ref a21, V.ref a22, V.ref a23, V.ref a24, V.ref a25, V.ref a26, V.ref a27, V.ref a28, V.ref a29, V.ref a30, V.ref a31, V.ref a32, V.ref a33] 18 v := R.snoc (m := 33) e33 rfl (made_of m33 (T.ca 33 (by decide)) rfl (by decide))
    replace hp := e33 _ _ hp
    replace s0 : Same H H33 := Same.trans s0 e33
    walk_at "go"
    rename_i b5 g5
    refine g_cat (upd_keep g5 hp) upd_same (Nat.le_trans (m := 100) (by simp) (by decide)) fun p5 h5 => ?_
    replace R := (R.same (same_new (o := .lst [V.ref a33]) g5)).same (same_new (o := .lst [V.ref a18, V.ref a19, V.ref a20, V.ref a21, V.ref a22, V.ref a23, V.ref a24, V.ref a25, V.ref a26, V.ref a27, V.ref a28, V.ref a29, V.ref a30, V.ref a31, V.ref a32, V.ref a33]) h5)
    replace s0 := (s0.trans (same_new (o := .lst [V.ref a33]) g5)).trans (same_new (o := .lst [V.ref a18, V.ref a19, V.ref a20, V.ref a21, V.ref a22, V.ref a23, V.ref a24, V.ref a25, V.ref a26, V.ref a27, V.ref a28, V.ref a29, V.ref a30, V.ref a31, V.ref a32, V.ref a33]) h5)
    walk_at "go"
    exact q _ _ _ s0 upd_same rfl R
end
section
variable {P : Program} {w : World} {K : PySem.W.Frag} {mg : Str → Option Value} {base : Heap} {f : Nat → Addr} {d : Nat → FuncData}
theorem ok_law_any (T : Txt P K mg f d) : FnOk P w K mg base CX0 2 (f 9) (d 9) ["_law_bag_here"] (sp_law_any K) := by
  refine T.F_law_any.ok sc_law_any (fun vs H Q E h => ?_) (fun cdv A outer s H vs Q E hr h => ?_)
  · obtain ⟨p, n, rfl, hn, B, q⟩ := h
    rfl
  · obtain ⟨p, n, rfl, hn, B, q⟩ := h
    refine ⟨_, (pss_cons (ps_set (i := 1) sc_law_any.nd rfl (.inl rfl) (pe_lst (pa_cons pe_non (pa_cons pe_bl (pa_cons pe_bl (pa_cons (pe_op op_sub pe_int pe_int) (pa_cons (pe_op op_pow pe_int pe_int) (pa_cons pe_str (pa_cons pe_str (pa_cons pe_str (pa_cons (pe_lst pa_nil) (pa_cons (pe_lst (pa_cons pe_str pa_nil)) (pa_cons (pe_tup (pa_cons pe_str pa_nil)) (pa_cons (pe_tup pa_nil) (pa_cons pe_dnewK (pa_cons (pe_disp (pps_cons pe_str pe_int pps_nil) (by rfl) (by rfl) (fun z => by cases z) (by decide)) (pa_cons (pe_lst (pa_cons (pe_lst (pa_cons pe_int pa_nil)) pa_nil)) pa_nil)))))))))))))))))
      (pss_one (ps_ret (pe_ix (ix_listV (K := K)) (pv 1) (pe_call (ok_law_take T) (hr.mono (by decide)) rfl T.m__law_take T.k__law_take T.b__law_take .nil pass0 (pa_cons (pv 0) (pa_cons pe_int pa_nil))) (fun _ _ => rfl))))), ?_⟩
    walk_at "go"
    rename_i a1 h1 a2 h2 a3 h3 a4 h4 a5 h5 a6 h6 a7 h7 a8 h8 a9 h9
    have n1 : a1 ≠ p := ne_bag h1 B
    have n2 : a2 ≠ p := ne_bag h2 (n := n) (by walk_at "bg")
    have n3 : a3 ≠ p := ne_bag h3 (n := n) (by walk_at "bg")
    have n4 : a4 ≠ p := ne_bag h4 (n := n) (by walk_at "bg")
    have n5 : a5 ≠ p := ne_bag h5 (n := n) (by walk_at "bg")
    have n6 : a6 ≠ p := ne_bag h6 (n := n) (by walk_at "bg")
    have n7 : a7 ≠ p := ne_bag h7 (n := n) (by walk_at "bg")
    have n8 : a8 ≠ p := ne_bag h8 (n := n) (by walk_at "bg")
    have n9 : a9 ≠ p := ne_bag h9 (n := n) (by walk_at "bg")
    refine ⟨p, 15, n, rfl, by decide, by decide, by omega, by walk_at "bg", fun z H1 z0 z1 B1 M1 => ?_⟩
    walk_at "go"
    obtain ⟨v, hv, ix⟩ := ix_draw (K := K) (M1 a9 _ n9 upd_same) z0 z1 rfl
    refine ix _ ?_
    have M0 : Mv p H H1 := Mv.trans (by walk_at "mv") M1
    have e1 := M1 a1 _ n1 (by walk_at "hx")
    have e2 := M1 a2 _ n2 (by walk_at "hx")
    have e3 := M1 a3 _ n3 (by walk_at "hx")
    have e4 := M1 a4 _ n4 (by walk_at "hx")
    have e5 := M1 a5 _ n5 (by walk_at "hx")
    have e6 := M1 a6 _ n6 (by walk_at "hx")
    have e7 := M1 a7 _ n7 (by walk_at "hx")
    have e8 := M1 a8 _ n8 (by walk_at "hx")
    suffices h : OneV p H1 v ∧ ∃ d, Dx p H1 v d from q v H1 h.1 h.2 B1 M0
    simp only [List.mem_cons, List.not_mem_nil, or_false] at hv
    have n78 : a7 ≠ a8 := fun z => by
      rw [z, e8] at e7
      cases e7
    rcases hv with rfl | rfl | rfl | rfl | rfl | rfl | rfl | rfl | rfl | rfl | rfl | rfl | rfl | rfl | rfl
    · exact one_leaf (dxD .non (by decide +kernel)) rfl
    · exact one_leaf (dxD (.bl _) (by decide +kernel)) rfl
    · exact one_leaf (dxD (.bl _) (by decide +kernel)) rfl
    · exact one_leaf (dxD (.int _) (by decide +kernel)) rfl
    · exact one_leaf (dxD (.int _) (by decide +kernel)) rfl
    · exact one_leaf (dxD (.str _) (by decide +kernel)) rfl
    · exact one_leaf (dxD (.str _) (by decide +kernel)) rfl
    · exact one_leaf (dxD (.str _) (by decide +kernel)) rfl
    · exact ⟨Or.inr (Or.inl ⟨a1, n1, rfl, e1⟩), _, dxD (.lst n1 e1 .nil) (by decide +kernel)⟩
    · exact ⟨Or.inr (Or.inr ⟨a2, _, _, n2, rfl, e2, dxD (.str _) (by decide +kernel), dxD (.str _) (by decide +kernel)⟩), _, dxD (.lst n2 e2 (.cons (.str _) .nil)) (by decide +kernel)⟩
    · exact one_leaf (dxD (.tup n3 e3 (.cons (.str _) .nil)) (by decide +kernel)) rfl
    · exact one_leaf (dxD (.tup n4 e4 .nil) (by decide +kernel)) rfl
    · exact one_leaf (d := .dict []) ⟨Or.inr ⟨_, rfl, Or.inl ⟨e5, rfl⟩⟩, by decide +kernel⟩ rfl
    · exact one_leaf (d := .dict [(.str _, .int _)]) ⟨Or.inr ⟨_, rfl, Or.inr ⟨_, _, e6, rfl⟩⟩, by decide +kernel⟩ rfl
    · exact ⟨Or.inr (Or.inr ⟨a8, _, _, n8, rfl, e8, dxD (.lst n78 e7 (.cons (.int _) .nil)) (by decide +kernel), dxD (.lst n7 e7 (.cons (.int _) .nil)) (by decide +kernel)⟩), _, dxD (.lst n8 e8 (.cons (.lst n7 e7 (.cons (.int _) .nil)) .nil)) (by decide +kernel)⟩
end
section
variable {P : Program} {w : World} {K : PySem.W.Frag} {mg : Str → Option Value} {base : Heap} {f : Nat → Addr} {d : Nat → FuncData}
theorem ok_law_very (T : Txt P K mg f d) : FnG P w K mg base 1 (f 10) (d 10) ["_law_gained", "_law_thing"] (sp_law_very K) := by
  refine fnG_of T.F_law_very sc_law_very (fun vs H Q E h => ?_) (fun cdv A outer s H vs Q E hr gua h => ?_)
  · obtain ⟨p, v, rfl, hv, q⟩ := h
    rfl
  · obtain ⟨p, v, rfl, hv, q⟩ := h
    refine ⟨_, (pss_cons (ps_if (pt_cmpR op_ne (pe_callB (JgX.call_any (K := K) gua hr.units) (by rfl) T.z_repr (by decide +kernel) (pa_cons (pv 0) pa_nil)) (pe_callB (JgX.call_any (K := K) gua hr.units) (by rfl) T.z_repr (by decide +kernel) (pa_cons (pv 1) pa_nil)) (nomark _)) (pss_one (ps_ret pe_bl)) pss_nil)
      (pss_cons (ps_if (pt_not (pt_val (pe_callB (JgX.call_isiE (K := K)) (by rfl) T.z_isinstance (by decide +kernel) (pa_cons (pv 1) (pa_cons (pe_bltn (v := .ty "list") (by rfl) T.z_list (by decide +kernel) rfl) pa_nil))))) (pss_one (ps_ret pe_bl)) pss_nil)
      (pss_cons (ps_expr (pe_bm PySem.F.plainAttrs_list PySem.F.slot_list_append PySem.F.type_list_append mt_append (pv 1) (pa_cons pe_str pa_nil)))
      (pss_cons (ps_set (i := 2) sc_law_very.nd rfl (.inl rfl) (pe_cmpR op_eq (pe_callB (JgX.call_any (K := K) gua hr.units) (by rfl) T.z_repr (by decide +kernel) (pa_cons (pv 0) pa_nil)) (pe_callB (JgX.call_any (K := K) gua hr.units) (by rfl) T.z_repr (by decide +kernel) (pa_cons (pv 1) pa_nil)) (nomark _)))
      (pss_cons (ps_expr (pe_bm0 PySem.F.plainAttrs_list PySem.F.slot_list_pop PySem.F.type_list_pop mt_pop (pv 1)))
      (pss_one (ps_ret (pv 2)))))))), ?_⟩
    have late : ∀ H : Hp, JgX.Sw K H (.str (Str.ofString "late")) (PyData.shown (.str (Str.ofString "late"))) := fun H => Dx.item (p := 0) K (dxD (.str (Str.ofString "late")) (by decide +kernel))
    walk_at "go"
    rcases hv with ⟨d, h, nl⟩ | ⟨c, _, rfl, e⟩ | ⟨c, x, d, _, rfl, e, h1, h2⟩
    · obtain ⟨s1, s2, s3, s4⟩ := h.sw K
      refine Or.inl ⟨v, d, rfl, s1, s2, s3, s4, ?_⟩
      walk_at "go"
      refine Or.inl ⟨v, d, rfl, s1, s2, s3, s4, ?_⟩
      walk_at "go"
      refine g_isiE (h.noList nl) ?_
      walk_at "go"
      exact q
    · have nil : JgX.Dq K H (.ref c) (.list []) := Or.inl ⟨.lst (Or.inl (Or.inl e)) .nil, by simp only [PyData.hasDict, PyData.hasDictAll]⟩
      refine Or.inl ⟨_, .list [], rfl, nil, by decide +kernel, by decide +kernel, by decide +kernel, ?_⟩
      walk_at "go"
      refine Or.inl ⟨_, .list [], rfl, nil, by decide +kernel, by decide +kernel, by decide +kernel, ?_⟩
      walk_at "go"
      refine g_isiE (b := true) (Isi.of (.base (.lst e)) (by decide +kernel)) ?_
      walk_at "go"
      refine ⟨Or.inl ⟨rfl, _, Or.inl (Or.inl e)⟩, ?_⟩
      walk_at "go"
      refine s_append e (show 0 < sizeLine by decide) ?_
      walk_at "go"
      refine Or.inr (Or.inl ⟨c, _, _, rfl, upd_same, late _, ?_⟩)
      walk_at "go"
      refine Or.inr (Or.inl ⟨c, _, _, rfl, upd_same, late _, ?_⟩)
      walk_at "go"
      refine g_BM0 ?_
      walk_at "go"
      refine ⟨Or.inl ⟨rfl, _, Or.inl (Or.inl upd_same)⟩, c, _, _, rfl, rfl, upd_same, rfl, ?_⟩
      walk_at "go"
      rw [decide_eq_true rfl]
      exact cast (congrArg (Q (.bl true)) (upd_back e).symm) q
    · have np : ∀ kvs, H c ≠ some (.dK kvs) := fun kvs z => by rw [e] at z; cases z
      refine Or.inr (Or.inl ⟨c, _, _, rfl, e, h1.item K, ?_⟩)
      walk_at "go"
      refine Or.inr (Or.inl ⟨c, _, _, rfl, e, h1.item K, ?_⟩)
      walk_at "go"
      refine g_isiE (b := true) (Isi.of (.base (.lst e)) (by decide +kernel)) ?_
      walk_at "go"
      refine ⟨Or.inl ⟨rfl, _, Or.inl (Or.inl e)⟩, ?_⟩
      walk_at "go"
      refine s_append e (show 1 < sizeLine by decide) ?_
      walk_at "go"
      have h3 : Dx c (upd H c (HO.lst ([x] ++ [V.str (Str.ofString "late")]))) x d := h1.mv np fun b o n z => by rw [upd_ne n]; exact z
      refine Or.inr (Or.inr ⟨c, _, _, _, _, rfl, upd_same, h3.item K, late _, ?_⟩)
      walk_at "go"
      refine Or.inr (Or.inr ⟨c, _, _, _, _, rfl, upd_same, h3.item K, late _, ?_⟩)
      walk_at "go"
      refine g_BM0 ?_
      walk_at "go"
      refine ⟨Or.inl ⟨rfl, _, Or.inl (Or.inl upd_same)⟩, c, _, _, rfl, rfl, upd_same, rfl, ?_⟩
      walk_at "go"
      rw [decide_eq_true rfl]
      rw [show upd (upd H c (HO.lst ([x] ++ [V.str (Str.ofString "late")]))) c (HO.lst ([x] ++ [V.str (Str.ofString "late")]).dropLast) = H from upd_back e]
      exact q
end
section
variable {P : Program} {w : World} {K : PySem.W.Frag} {mg : Str → Option Value} {base : Heap} {f : Nat → Addr} {d : Nat → FuncData}
theorem ok_law_fields_right (T : Txt P K mg f d) : FnG P w K mg base 2 (f 11) (d 11) ["_law_place", "_law_e", "_law_one"] (sp_law_fields_right K) := by
  refine fnG_of T.F_law_fields_right sc_law_fields_right (fun vs H Q E h => ?_) (fun cdv A outer s H vs Q E hr gua h => ?_)
  · obtain ⟨p, v, e, i, rfl, hi, m, hv, q⟩ := h
    rfl
  · obtain ⟨p, v, e, i, rfl, hi, m, hv, q⟩ := h
    refine ⟨_, (pss_cons (ps_if (pt_cmpR op_eq (pv 0) pe_int (nomark _)) (pss_one (ps_ret (pe_callG (ok_law_very T) (hr.mono (by decide)) gua rfl T.m__law_very T.k__law_very T.b__law_very .nil (pa_cons (JgX.pe_kg (K := K) (pv 1)) (pa_cons (pv 2) pa_nil))))) pss_nil)
      (pss_cons (ps_if (pt_cmpR op_eq (pv 0) pe_int (nomark _)) (pss_one (ps_ret (pe_callG (ok_law_very T) (hr.mono (by decide)) gua rfl T.m__law_very T.k__law_very T.b__law_very .nil (pa_cons (JgX.pe_kg (K := K) (pv 1)) (pa_cons (pv 2) pa_nil))))) pss_nil)
      (pss_cons (ps_if (pt_cmpR op_eq (pv 0) pe_int (nomark _)) (pss_one (ps_ret (pe_callG (ok_law_very T) (hr.mono (by decide)) gua rfl T.m__law_very T.k__law_very T.b__law_very .nil (pa_cons (JgX.pe_kg (K := K) (pv 1)) (pa_cons (pv 2) pa_nil))))) pss_nil)
      (pss_cons (ps_if (pt_cmpR op_eq (pv 0) pe_int (nomark _)) (pss_one (ps_ret (pe_callG (ok_law_very T) (hr.mono (by decide)) gua rfl T.m__law_very T.k__law_very T.b__law_very .nil (pa_cons (JgX.pe_kg (K := K) (pv 1)) (pa_cons (pv 2) pa_nil))))) pss_nil)
      (pss_cons (ps_if (pt_cmpR op_eq (pv 0) pe_int (nomark _)) (pss_one (ps_ret (pe_callG (ok_law_very T) (hr.mono (by decide)) gua rfl T.m__law_very T.k__law_very T.b__law_very .nil (pa_cons (JgX.pe_kg (K := K) (pv 1)) (pa_cons (pv 2) pa_nil))))) pss_nil)
      (pss_cons (ps_if (pt_cmpR op_eq (pv 0) pe_int (nomark _)) (pss_one (ps_ret (pe_callG (ok_law_very T) (hr.mono (by decide)) gua rfl T.m__law_very T.k__law_very T.b__law_very .nil (pa_cons (JgX.pe_kg (K := K) (pv 1)) (pa_cons (pv 2) pa_nil))))) pss_nil)
      (pss_cons (ps_if (pt_cmpR op_eq (pv 0) pe_int (nomark _)) (pss_one (ps_ret (pe_callG (ok_law_very T) (hr.mono (by decide)) gua rfl T.m__law_very T.k__law_very T.b__law_very .nil (pa_cons (JgX.pe_kg (K := K) (pv 1)) (pa_cons (pv 2) pa_nil))))) pss_nil)
      (pss_cons (ps_if (pt_cmpR op_eq (pv 0) pe_int (nomark _)) (pss_one (ps_ret pe_bl)) pss_nil)
      (pss_cons (ps_if (pt_cmpR op_eq (pv 0) pe_int (nomark _)) (pss_one (ps_ret (pe_callG (ok_law_very T) (hr.mono (by decide)) gua rfl T.m__law_very T.k__law_very T.b__law_very .nil (pa_cons (JgX.pe_kg (K := K) (pv 1)) (pa_cons (pv 2) pa_nil))))) pss_nil)
      (pss_cons (ps_if (pt_cmpR op_eq (pv 0) pe_int (nomark _)) (pss_one (ps_ret (pe_callG (ok_law_very T) (hr.mono (by decide)) gua rfl T.m__law_very T.k__law_very T.b__law_very .nil (pa_cons (JgX.pe_kg (K := K) (pv 1)) (pa_cons (pv 2) pa_nil))))) pss_nil)
      (pss_one (ps_ret (pe_callG (ok_law_very T) (hr.mono (by decide)) gua rfl T.m__law_very T.k__law_very T.b__law_very .nil (pa_cons (JgX.pe_kg (K := K) (pv 1)) (pa_cons (pv 2) pa_nil))))))))))))))), ?_⟩
    walk_at "go"
    refine g_int2 (fun h => ?_) (fun n3 => ?_)
    · have h' : i = 3 := by omega
      walk_at "go"
      refine g_kg ?_
      walk_at "go"
      obtain ⟨a1, C1, z1, fs1, w1, w2, w3, w4, w5⟩ := fld T m (fl := Str.ofString "at") hi (by omega) (by subst h'; rfl)
      refine ⟨a1, C1, z1, fs1, v, w1, w2, w3, w4, w5, ?_⟩
      walk_at "go"
      refine ⟨p, v, rfl, hv, ?_⟩
      walk_at "go"
      exact q
    walk_at "go"
    refine g_int2 (fun h => ?_) (fun n5 => ?_)
    · have h' : i = 5 := by omega
      walk_at "go"
      refine g_kg ?_
      walk_at "go"
      obtain ⟨a1, C1, z1, fs1, w1, w2, w3, w4, w5⟩ := fld T m (fl := Str.ofString "at") hi (by omega) (by subst h'; rfl)
      refine ⟨a1, C1, z1, fs1, v, w1, w2, w3, w4, w5, ?_⟩
      walk_at "go"
      refine ⟨p, v, rfl, hv, ?_⟩
      walk_at "go"
      exact q
    walk_at "go"
    refine g_int2 (fun h => ?_) (fun n6 => ?_)
    · have h' : i = 6 := by omega
      walk_at "go"
      refine g_kg ?_
      walk_at "go"
      obtain ⟨a1, C1, z1, fs1, w1, w2, w3, w4, w5⟩ := fld T m (fl := Str.ofString "many") hi (by omega) (by subst h'; rfl)
      refine ⟨a1, C1, z1, fs1, v, w1, w2, w3, w4, w5, ?_⟩
      walk_at "go"
      refine ⟨p, v, rfl, hv, ?_⟩
      walk_at "go"
      exact q
    walk_at "go"
    refine g_int2 (fun h => ?_) (fun n22 => ?_)
    · have h' : i = 22 := by omega
      walk_at "go"
      refine g_kg ?_
      walk_at "go"
      obtain ⟨a1, C1, z1, fs1, w1, w2, w3, w4, w5⟩ := fld T m (fl := Str.ofString "at") hi (by omega) (by subst h'; rfl)
      refine ⟨a1, C1, z1, fs1, v, w1, w2, w3, w4, w5, ?_⟩
      walk_at "go"
      refine ⟨p, v, rfl, hv, ?_⟩
      walk_at "go"
      exact q
    walk_at "go"
    refine g_int2 (fun h => ?_) (fun n23 => ?_)
    · have h' : i = 23 := by omega
      walk_at "go"
      refine g_kg ?_
      walk_at "go"
      obtain ⟨a1, C1, z1, fs1, w1, w2, w3, w4, w5⟩ := fld T m (fl := Str.ofString "row") hi (by omega) (by subst h'; rfl)
      refine ⟨a1, C1, z1, fs1, v, w1, w2, w3, w4, w5, ?_⟩
      walk_at "go"
      refine ⟨p, v, rfl, hv, ?_⟩
      walk_at "go"
      exact q
    walk_at "go"
    refine g_int2 (fun h => ?_) (fun n27 => ?_)
    · have h' : i = 27 := by omega
      walk_at "go"
      refine g_kg ?_
      walk_at "go"
      obtain ⟨a1, C1, z1, fs1, w1, w2, w3, w4, w5⟩ := fld T m (fl := Str.ofString "many") hi (by omega) (by subst h'; rfl)
      refine ⟨a1, C1, z1, fs1, v, w1, w2, w3, w4, w5, ?_⟩
      walk_at "go"
      refine ⟨p, v, rfl, hv, ?_⟩
      walk_at "go"
      exact q
    walk_at "go"
    refine g_int2 (fun h => ?_) (fun n28 => ?_)
    · have h' : i = 28 := by omega
      walk_at "go"
      refine g_kg ?_
      walk_at "go"
      obtain ⟨a1, C1, z1, fs1, w1, w2, w3, w4, w5⟩ := fld T m (fl := Str.ofString "many") hi (by omega) (by subst h'; rfl)
      refine ⟨a1, C1, z1, fs1, v, w1, w2, w3, w4, w5, ?_⟩
      walk_at "go"
      refine ⟨p, v, rfl, hv, ?_⟩
      walk_at "go"
      exact q
    walk_at "go"
    refine g_int2 (fun h => ?_) (fun n31 => ?_)
    · walk_at "go"
      exact q
    walk_at "go"
    refine g_int2 (fun h => ?_) (fun n32 => ?_)
    · have h' : i = 32 := by omega
      walk_at "go"
      refine g_kg ?_
      walk_at "go"
      obtain ⟨a1, C1, z1, fs1, w1, w2, w3, w4, w5⟩ := fld T m (fl := Str.ofString "many") hi (by omega) (by subst h'; rfl)
      refine ⟨a1, C1, z1, fs1, v, w1, w2, w3, w4, w5, ?_⟩
      walk_at "go"
      refine ⟨p, v, rfl, hv, ?_⟩
      walk_at "go"
      exact q
    walk_at "go"
    refine g_int2 (fun h => ?_) (fun n33 => ?_)
    · have h' : i = 33 := by omega
      walk_at "go"
      refine g_kg ?_
      walk_at "go"
      obtain ⟨a1, C1, z1, fs1, w1, w2, w3, w4, w5⟩ := fld T m (fl := Str.ofString "many") hi (by omega) (by subst h'; rfl)
      refine ⟨a1, C1, z1, fs1, v, w1, w2, w3, w4, w5, ?_⟩
      walk_at "go"
      refine ⟨p, v, rfl, hv, ?_⟩
      walk_at "go"
      exact q
    walk_at "go"
    refine g_kg ?_
    walk_at "go"
    obtain ⟨a1, C1, z1, fs1, w1, w2, w3, w4, w5⟩ := fld T m (fl := Str.ofString "found") hi (by omega) (found_of i hi (by omega))
    refine ⟨a1, C1, z1, fs1, v, w1, w2, w3, w4, w5, ?_⟩
    walk_at "go"
    refine ⟨p, v, rfl, hv, ?_⟩
    walk_at "go"
    exact q
end
section
variable {P : Program} {w : World} {K : PySem.W.Frag} {mg : Str → Option Value} {base : Heap} {f : Nat → Addr} {d : Nat → FuncData}
theorem ok_law_taken (T : Txt P K mg f d) : FnG P w K mg base 3 (f 12) (d 12) ["_law_e", "_law_place"] (sp_law_taken K) := by
  refine fnG_of T.F_law_taken sc_law_taken (fun vs H Q E h => ?_) (fun cdv A outer s H vs Q E hr gua h => ?_)
  · obtain ⟨v, i, rfl, hi, ⟨_, he⟩, q⟩ := h
    rfl
  · obtain ⟨v, i, rfl, hi, ⟨_, he⟩, q⟩ := h
    refine ⟨_, (pss_one (L2N.ps_try_many rfl rfl JgX.takes_no (fun W pn xe tk _ => (pss_cons (ps_if (pt_cmpR op_lt (pv 1) pe_int (nomark _)) (pss_one (L2N.ps_raise rfl tk (JgH.mk_plain JgX.mkValue JgX.xValue.ini (by decide +kernel) (by first | rfl | decide +kernel) T.p_TermError (L2.raises_own T.u_TermError.f.exC T.t_TermError) rfl T.c_TermError pe_str))) pss_nil)
      (pss_cons (ps_if (pt_cmpR op_lt (pv 1) pe_int (nomark _)) (pss_one (L2N.ps_raise rfl tk (JgH.mk_plain JgX.mkKey JgX.xKey.ini (by decide +kernel) (by first | rfl | decide +kernel) T.p_Absent (L2.raises_own T.u_Absent.f.exC T.t_Absent) rfl T.c_Absent pe_str))) pss_nil)
      (pss_one (L2N.ps_raise rfl tk (JgH.mk_plain JgX.mkLookup JgX.xLookup.ini (by decide +kernel) (by first | rfl | decide +kernel) T.p_Ended (L2.raises_own T.u_Ended.f.exC T.t_Ended) rfl T.c_Ended pe_str)))))) (.cons ⟨rfl, by decide, Or.inl T.c_TermError⟩ (fun a oe cls dd pn hz hf => (pss_one (ps_ret (pe_callB (JgX.call_isi3 (K := K)) (by rfl) T.z_isinstance (by decide +kernel) (pa_cons (pv 0) (pa_cons (pe_glob (v := .ref (f 168)) rfl T.c_TermError rfl) pa_nil)))))) (.cons ⟨rfl, by decide, Or.inl T.c_Absent⟩ (fun a oe cls dd pn hz hf => (pss_one (ps_ret (pe_callB (JgX.call_isi3 (K := K)) (by rfl) T.z_isinstance (by decide +kernel) (pa_cons (pv 0) (pa_cons (pe_glob (v := .ref (f 170)) rfl T.c_Absent rfl) pa_nil)))))) (.cons ⟨rfl, by decide, Or.inl T.c_Ended⟩ (fun a oe cls dd pn hz hf => (pss_one (ps_ret (pe_callB (JgX.call_isi3 (K := K)) (by rfl) T.z_isinstance (by decide +kernel) (pa_cons (pv 0) (pa_cons (pe_glob (v := .ref (f 172)) rfl T.c_Ended rfl) pa_nil)))))) .nil))))), ?_⟩
    have xa := T.xa i (by omega)
    rw [T.ca i (by omega)] at he
    walk_at "go"
    refine g_two (fun h => ?_) (fun h => ?_)
    · walk_at "go"
      refine ⟨_, rfl, ?_⟩
      refine ⟨true, T.exm 34 34 (by decide) (by decide) (by decide) (by decide), fun _ a ha => ?_, fun z => by cases z⟩
      walk_at "go"
      refine JgX.g_isi3 he xa (.own _) (T.kfm i 34 (by omega) (by decide) (by decide)) ?_
      walk_at "go"
      rw [show fam i = 34 from by unfold fam; rw [if_pos (by omega)]]
      exact q
    walk_at "go"
    refine g_two (fun h' => ?_) (fun h' => ?_)
    · walk_at "go"
      refine ⟨_, rfl, ?_⟩
      refine ⟨false, T.exm 35 34 (by decide) (by decide) (by decide) (by decide), fun z => (by cases z), fun _ => ?_⟩
      refine ⟨true, T.exm 35 35 (by decide) (by decide) (by decide) (by decide), fun _ a ha => ?_, fun z => by cases z⟩
      walk_at "go"
      refine JgX.g_isi3 he xa (.own _) (T.kfm i 35 (by omega) (by decide) (by decide)) ?_
      walk_at "go"
      rw [show fam i = 35 from by unfold fam; rw [if_neg (by omega), if_pos (by omega)]]
      exact q
    walk_at "go"
    · skip
      refine ⟨_, rfl, ?_⟩
      refine ⟨false, T.exm 36 34 (by decide) (by decide) (by decide) (by decide), fun z => (by cases z), fun _ => ?_⟩
      refine ⟨false, T.exm 36 35 (by decide) (by decide) (by decide) (by decide), fun z => (by cases z), fun _ => ?_⟩
      refine ⟨true, T.exm 36 36 (by decide) (by decide) (by decide) (by decide), fun _ a ha => ?_, fun z => by cases z⟩
      walk_at "go"
      refine JgX.g_isi3 he xa (.own _) (T.kfm i 36 (by omega) (by decide) (by decide)) ?_
      walk_at "go"
      rw [show fam i = 36 from by unfold fam; rw [if_neg (by omega), if_neg (by omega), if_pos (by omega)]]
      exact q
end
section
variable {P : Program} {w : World} {K : PySem.W.Frag} {mg : Str → Option Value} {base : Heap} {f : Nat → Addr} {d : Nat → FuncData}
theorem ok_law_by_name_right (T : Txt P K mg f d) : FnG P w K mg base 3 (f 13) (d 13) ["_law_one"] (sp_law_by_name_right K) := by
  refine fnG_of T.F_law_by_name_right sc_law_by_name_right (fun vs H Q E h => ?_) (fun cdv A outer s H vs Q E hr gua h => ?_)
  · obtain ⟨p, v, rfl, hv, q⟩ := h
    rfl
  · obtain ⟨p, v, rfl, hv, q⟩ := h
    refine ⟨_, (pss_cons (ps_set (i := 1) sc_law_by_name_right.nd rfl (.inl rfl) (pe_lst (pa_cons (JgX.pe_kxK JgX.mkValue T.q_NoName.x T.q_NoName.y.iC T.q_NoName.y.tI (JgX.keep_st (k := 0) (CX := CX0) JgX.xValue T.q_NoName.x T.q_NoName.y zx_NoName zy_NoName T.q_NoName.n T.opq T.z_super T.tp) (hr.mono (by decide)) (T.q_NoName.y.bindsK fun _ _ _ _ _ _ _ _ _ _ => rfl) rfl T.q_NoName.c (pv 0)) (pa_cons (JgX.pe_kxK JgX.mkValue T.q_NoTerm.x T.q_NoTerm.y.iC T.q_NoTerm.y.tI (JgX.keep_st (k := 0) (CX := CX0) JgX.xValue T.q_NoTerm.x T.q_NoTerm.y zx_NoTerm zy_NoTerm T.q_NoTerm.n T.opq T.z_super T.tp) (hr.mono (by decide)) (T.q_NoTerm.y.bindsK fun _ _ _ _ _ _ _ _ _ _ => rfl) rfl T.q_NoTerm.c (pv 0)) (pa_cons (JgX.pe_kxK JgX.mkValue T.q_Unlike.x T.q_Unlike.y.iC T.q_Unlike.y.tI (JgX.keep_st (k := 0) (CX := CX0) JgX.xValue T.q_Unlike.x T.q_Unlike.y zx_Unlike zy_Unlike T.q_Unlike.n T.opq T.z_super T.tp) (hr.mono (by decide)) (T.q_Unlike.y.bindsK fun _ _ _ _ _ _ _ _ _ _ => rfl) rfl T.q_Unlike.c (pv 0)) (pa_cons (JgX.pe_kxK JgX.mkValue T.q_Twice.x T.q_Twice.y.iC T.q_Twice.y.tI (JgX.keep_st (k := 0) (CX := CX0) JgX.xValue T.q_Twice.x T.q_Twice.y zx_Twice zy_Twice T.q_Twice.n T.opq T.z_super T.tp) (hr.mono (by decide)) (T.q_Twice.y.bindsK fun _ _ _ _ _ _ _ _ _ _ => rfl) rfl T.q_Twice.c (pv 0)) (pa_cons (JgX.pe_kxK JgX.mkKey T.q_NotThere.x T.q_NotThere.y.iC T.q_NotThere.y.tI (JgX.keep_st (k := 0) (CX := CX0) JgX.xKey T.q_NotThere.x T.q_NotThere.y zx_NotThere zy_NotThere T.q_NotThere.n T.opq T.z_super T.tp) (hr.mono (by decide)) (T.q_NotThere.y.bindsK fun _ _ _ _ _ _ _ _ _ _ => rfl) rfl T.q_NotThere.c (pv 0)) pa_nil)))))))
      (pss_cons (ps_if (pt_cmpR (op_neD hr.units) (pe_lc (own := [("_law_e", 2)]) (g := gName 2) (tt := _) rfl sc_law_by_name_right.nd (pi_list (pv 1)) (blkOk_by (own := [("_law_e", 2)]) (N := n_law_by_name_right) (sc := defScope s_law_by_name_right) (by decide +kernel)) (fun _ _ _ _ _ => pg_name (i := 2) sc_law_by_name_right.nd rfl (Or.inl rfl)) (fun _ _ _ _ _ => pts_one (pt_not (pt_val (pe_callG (ok_law_very T) (hr.mono (by decide)) gua rfl T.m__law_very T.k__law_very T.b__law_very .nil (pa_cons (JgX.pe_kg (K := K) (pv 2)) (pa_cons (pv 0) pa_nil)))))) (fun _ _ _ _ _ => pe_int)) (pe_lst pa_nil) (nomark _)) (pss_one (ps_ret pe_bl)) pss_nil)
      (pss_cons (ps_set (i := 1) sc_law_by_name_right.nd rfl (.inl rfl) (pe_lst (pa_cons (JgX.pe_kxK JgX.mkValue T.q_NoSign.x T.q_NoSign.y.iC T.q_NoSign.y.tI (JgX.keep_st (k := 0) (CX := CX0) JgX.xValue T.q_NoSign.x T.q_NoSign.y zx_NoSign zy_NoSign T.q_NoSign.n T.opq T.z_super T.tp) (hr.mono (by decide)) (T.q_NoSign.y.bindsK fun _ _ _ _ _ _ _ _ _ _ => rfl) rfl T.q_NoSign.c (pv 0)) (pa_cons (JgX.pe_kxK JgX.mkValue T.q_Beyond.x T.q_Beyond.y.iC T.q_Beyond.y.tI (JgX.keep_st (k := 0) (CX := CX0) JgX.xValue T.q_Beyond.x T.q_Beyond.y zx_Beyond zy_Beyond T.q_Beyond.n T.opq T.z_super T.tp) (hr.mono (by decide)) (T.q_Beyond.y.bindsK fun _ _ _ _ _ _ _ _ _ _ => rfl) rfl T.q_Beyond.c (pv 0)) (pa_cons (JgX.pe_kxK JgX.mkValue T.q_NoDeed.x T.q_NoDeed.y.iC T.q_NoDeed.y.tI (JgX.keep_st (k := 0) (CX := CX0) JgX.xValue T.q_NoDeed.x T.q_NoDeed.y zx_NoDeed zy_NoDeed T.q_NoDeed.n T.opq T.z_super T.tp) (hr.mono (by decide)) (T.q_NoDeed.y.bindsK fun _ _ _ _ _ _ _ _ _ _ => rfl) rfl T.q_NoDeed.c (pv 0)) pa_nil)))))
      (pss_cons (ps_if (pt_cmpR (op_neD hr.units) (pe_lc (own := [("_law_e", 2)]) (g := gName 2) (tt := _) rfl sc_law_by_name_right.nd (pi_list (pv 1)) (blkOk_by (own := [("_law_e", 2)]) (N := n_law_by_name_right) (sc := defScope s_law_by_name_right) (by decide +kernel)) (fun _ _ _ _ _ => pg_name (i := 2) sc_law_by_name_right.nd rfl (Or.inl rfl)) (fun _ _ _ _ _ => pts_one (pt_not (pt_val (pe_callG (ok_law_very T) (hr.mono (by decide)) gua rfl T.m__law_very T.k__law_very T.b__law_very .nil (pa_cons (JgX.pe_kg (K := K) (pv 2)) (pa_cons (pv 0) pa_nil)))))) (fun _ _ _ _ _ => pe_int)) (pe_lst pa_nil) (nomark _)) (pss_one (ps_ret pe_bl)) pss_nil)
      (pss_cons (ps_set (i := 1) sc_law_by_name_right.nd rfl (.inl rfl) (pe_lst (pa_cons (JgX.pe_kxK JgX.mkValue T.q_TooMany.x T.q_TooMany.y.iC T.q_TooMany.y.tI (JgX.keep_st (k := 0) (CX := CX0) JgX.xValue T.q_TooMany.x T.q_TooMany.y zx_TooMany zy_TooMany T.q_TooMany.n T.opq T.z_super T.tp) (hr.mono (by decide)) (T.q_TooMany.y.bindsK fun _ _ _ _ _ _ _ _ _ _ => rfl) rfl T.q_TooMany.c (pv 0)) (pa_cons (JgX.pe_kxK JgX.mkValue T.q_TooGreat.x T.q_TooGreat.y.iC T.q_TooGreat.y.tI (JgX.keep_st (k := 0) (CX := CX0) JgX.xValue T.q_TooGreat.x T.q_TooGreat.y zx_TooGreat zy_TooGreat T.q_TooGreat.n T.opq T.z_super T.tp) (hr.mono (by decide)) (T.q_TooGreat.y.bindsK fun _ _ _ _ _ _ _ _ _ _ => rfl) rfl T.q_TooGreat.c (pv 0)) (pa_cons (JgX.pe_kxK JgX.mkLookup T.q_Changed.x T.q_Changed.y.iC T.q_Changed.y.tI (JgX.keep_st (k := 0) (CX := CX0) JgX.xLookup T.q_Changed.x T.q_Changed.y zx_Changed zy_Changed T.q_Changed.n T.opq T.z_super T.tp) (hr.mono (by decide)) (T.q_Changed.y.bindsK fun _ _ _ _ _ _ _ _ _ _ => rfl) rfl T.q_Changed.c (pv 0)) (pa_cons (JgX.pe_kxK JgX.mkValue T.q_Unended.x T.q_Unended.y.iC T.q_Unended.y.tI (JgX.keep_st (k := 0) (CX := CX0) JgX.xValue T.q_Unended.x T.q_Unended.y zx_Unended zy_Unended T.q_Unended.n T.opq T.z_super T.tp) (hr.mono (by decide)) (T.q_Unended.y.bindsK fun _ _ _ _ _ _ _ _ _ _ => rfl) rfl T.q_Unended.c (pv 0)) pa_nil))))))
      (pss_one (ps_ret (pe_and (pe_cmpR (op_eqD hr.units) (pe_lc (own := [("_law_e", 2)]) (g := gName 2) (tt := _) rfl sc_law_by_name_right.nd (pi_list (pv 1)) (blkOk_by (own := [("_law_e", 2)]) (N := n_law_by_name_right) (sc := defScope s_law_by_name_right) (by decide +kernel)) (fun _ _ _ _ _ => pg_name (i := 2) sc_law_by_name_right.nd rfl (Or.inl rfl)) (fun _ _ _ _ _ => pts_one (pt_not (pt_val (pe_callG (ok_law_very T) (hr.mono (by decide)) gua rfl T.m__law_very T.k__law_very T.b__law_very .nil (pa_cons (JgX.pe_kg (K := K) (pv 2)) (pa_cons (pv 0) pa_nil)))))) (fun _ _ _ _ _ => pe_int)) (pe_lst pa_nil) (nomark _)) (pe_one (pe_callG (ok_law_very T) (hr.mono (by decide)) gua rfl T.m__law_very T.k__law_very T.b__law_very .nil (pa_cons (JgX.pe_kg (K := K) (JgX.pe_kxK JgX.mkValue T.q_NoText.x T.q_NoText.y.iC T.q_NoText.y.tI (JgX.keep_st (k := 0) (CX := CX0) JgX.xValue T.q_NoText.x T.q_NoText.y zx_NoText zy_NoText T.q_NoText.n T.opq T.z_super T.tp) (hr.mono (by decide)) (T.q_NoText.y.bindsK fun _ _ _ _ _ _ _ _ _ _ => rfl) rfl T.q_NoText.c (pv 0))) (pa_cons (pv 0) pa_nil)))))))))))), ?_⟩
    have s0 : Same H H := fun _ _ e => e
    walk_at "go"
    have R : MadeF K H [] (Str.ofString "found") v := .nil
    refine JgX.g_kxFV rfl fun a0 H0 n0 e0 m0 => ?_
    replace s0 : Same H H0 := Same.trans s0 e0
    replace R : MadeF K H0 [V.ref a0] (Str.ofString "found") v := R.snoc s0 (made_of m0 (T.ca 0 (by decide)) rfl (by decide)) (by decide) (by decide) rfl
    walk_at "go"
    refine JgX.g_kxFV rfl fun a7 H7 n7 e7 m7 => ?_
    replace s0 : Same H H7 := Same.trans s0 e7
    replace R : MadeF K H7 [V.ref a0, V.ref a7] (Str.ofString "found") v := R.snoc e7 (made_of m7 (T.ca 7 (by decide)) rfl (by decide)) (by decide) (by decide) rfl
    walk_at "go"
    refine JgX.g_kxFV rfl fun a25 H25 n25 e25 m25 => ?_
    replace s0 : Same H H25 := Same.trans s0 e25
    replace R : MadeF K H25 [V.ref a0, V.ref a7, V.ref a25] (Str.ofString "found") v := R.snoc e25 (made_of m25 (T.ca 25 (by decide)) rfl (by decide)) (by decide) (by decide) rfl
    walk_at "go"
    refine JgX.g_kxFV rfl fun a26 H26 n26 e26 m26 => ?_
    replace s0 : Same H H26 := Same.trans s0 e26
    replace R : MadeF K H26 [V.ref a0, V.ref a7, V.ref a25, V.ref a26] (Str.ofString "found") v := R.snoc e26 (made_of m26 (T.ca 26 (by decide)) rfl (by decide)) (by decide) (by decide) rfl
    walk_at "go"
    refine JgX.g_kxFV rfl fun a29 H29 n29 e29 m29 => ?_
    replace s0 : Same H H29 := Same.trans s0 e29
    replace R : MadeF K H29 [V.ref a0, V.ref a7, V.ref a25, V.ref a26, V.ref a29] (Str.ofString "found") v := R.snoc e29 (made_of m29 (T.ca 29 (by decide)) rfl (by decide)) (by decide) (by decide) rfl
    walk_at "go"
    rename_i p0 h0
    replace R := R.same (same_new (o := .lst [V.ref a0, V.ref a7, V.ref a25, V.ref a26, V.ref a29]) h0)
    replace s0 := s0.trans (same_new (o := .lst [V.ref a0, V.ref a7, V.ref a25, V.ref a26, V.ref a29]) h0)
    refine lc_none (xs := [V.ref a0, V.ref a7, V.ref a25, V.ref a26, V.ref a29]) (Or.inl (Or.inl upd_same)) (fun x => rfl) (fun x hx H2 B s2 b => ?_) (fun D0 q0 => ?_)
    · obtain ⟨i, hi, ni, hf, m⟩ := R x hx
      walk_at "go"
      refine g_kg ?_
      walk_at "go"
      obtain ⟨a1, C1, z1, fs1, w1, w2, w3, w4, w5⟩ := fld T (m.same s2) hi ni hf
      refine ⟨a1, C1, z1, fs1, v, w1, w2, w3, w4, w5, ?_⟩
      walk_at "go"
      refine ⟨p, v, rfl, hv.same (s0.trans s2), ?_⟩
      walk_at "go"
      exact b
    replace s0 := s0.trans (same_new (o := .lst []) q0)
    walk_at "go"
    rename_i d0 w0
    refine ⟨.list [], .list [], .lst (Or.inl (Or.inl (upd_keep w0 upd_same))) .nil, .lst (Or.inl (Or.inl upd_same)) .nil, rfl, rfl, ?_⟩
    replace s0 := s0.trans (same_new (o := .lst []) w0)
    rw [show PyData.eqv (.list []) (.list []) = true from by decide +kernel]
    walk_at "go"
    have R : MadeF K H [] (Str.ofString "at") v := .nil
    refine JgX.g_kxFV rfl fun a3 H3 n3 e3 m3 => ?_
    replace s0 : Same H H3 := Same.trans s0 e3
    replace R : MadeF K H3 [V.ref a3] (Str.ofString "at") v := R.snoc s0 (made_of m3 (T.ca 3 (by decide)) rfl (by decide)) (by decide) (by decide) rfl
    walk_at "go"
    refine JgX.g_kxFV rfl fun a5 H5 n5 e5 m5 => ?_
    replace s0 : Same H H5 := Same.trans s0 e5
    replace R : MadeF K H5 [V.ref a3, V.ref a5] (Str.ofString "at") v := R.snoc e5 (made_of m5 (T.ca 5 (by decide)) rfl (by decide)) (by decide) (by decide) rfl
    walk_at "go"
    refine JgX.g_kxFV rfl fun a22 H22 n22 e22 m22 => ?_
    replace s0 : Same H H22 := Same.trans s0 e22
    replace R : MadeF K H22 [V.ref a3, V.ref a5, V.ref a22] (Str.ofString "at") v := R.snoc e22 (made_of m22 (T.ca 22 (by decide)) rfl (by decide)) (by decide) (by decide) rfl
    walk_at "go"
    rename_i p1 h1
    replace R := R.same (same_new (o := .lst [V.ref a3, V.ref a5, V.ref a22]) h1)
    replace s0 := s0.trans (same_new (o := .lst [V.ref a3, V.ref a5, V.ref a22]) h1)
    refine lc_none (xs := [V.ref a3, V.ref a5, V.ref a22]) (Or.inl (Or.inl upd_same)) (fun x => rfl) (fun x hx H2 B s2 b => ?_) (fun D1 q1 => ?_)
    · obtain ⟨i, hi, ni, hf, m⟩ := R x hx
      walk_at "go"
      refine g_kg ?_
      walk_at "go"
      obtain ⟨a1, C1, z1, fs1, w1, w2, w3, w4, w5⟩ := fld T (m.same s2) hi ni hf
      refine ⟨a1, C1, z1, fs1, v, w1, w2, w3, w4, w5, ?_⟩
      walk_at "go"
      refine ⟨p, v, rfl, hv.same (s0.trans s2), ?_⟩
      walk_at "go"
      exact b
    replace s0 := s0.trans (same_new (o := .lst []) q1)
    walk_at "go"
    rename_i d1 w1
    refine ⟨.list [], .list [], .lst (Or.inl (Or.inl (upd_keep w1 upd_same))) .nil, .lst (Or.inl (Or.inl upd_same)) .nil, rfl, rfl, ?_⟩
    replace s0 := s0.trans (same_new (o := .lst []) w1)
    rw [show PyData.eqv (.list []) (.list []) = true from by decide +kernel]
    walk_at "go"
    have R : MadeF K H [] (Str.ofString "many") v := .nil
    refine JgX.g_kxFV rfl fun a27 H27 n27 e27 m27 => ?_
    replace s0 : Same H H27 := Same.trans s0 e27
    replace R : MadeF K H27 [V.ref a27] (Str.ofString "many") v := R.snoc s0 (made_of m27 (T.ca 27 (by decide)) rfl (by decide)) (by decide) (by decide) rfl
    walk_at "go"
    refine JgX.g_kxFV rfl fun a28 H28 n28 e28 m28 => ?_
    replace s0 : Same H H28 := Same.trans s0 e28
    replace R : MadeF K H28 [V.ref a27, V.ref a28] (Str.ofString "many") v := R.snoc e28 (made_of m28 (T.ca 28 (by decide)) rfl (by decide)) (by decide) (by decide) rfl
    walk_at "go"
    refine JgX.g_kxFV rfl fun a32 H32 n32 e32 m32 => ?_
    replace s0 : Same H H32 := Same.trans s0 e32
    replace R : MadeF K H32 [V.ref a27, V.ref a28, V.ref a32] (Str.ofString "many") v := R.snoc e32 (made_of m32 (T.ca 32 (by decide)) rfl (by decide)) (by decide) (by decide) rfl
    walk_at "go"
    refine JgX.g_kxFV rfl fun a6 H6 n6 e6 m6 => ?_
    replace s0 : Same H H6 := Same.trans s0 e6
    replace R : MadeF K H6 [V.ref a27, V.ref a28, V.ref a32, V.ref a6] (Str.ofString "many") v := R.snoc e6 (made_of m6 (T.ca 6 (by decide)) rfl (by decide)) (by decide) (by decide) rfl
    walk_at "go"
    rename_i p2 h2
    replace R := R.same (same_new (o := .lst [V.ref a27, V.ref a28, V.ref a32, V.ref a6]) h2)
    replace s0 := s0.trans (same_new (o := .lst [V.ref a27, V.ref a28, V.ref a32, V.ref a6]) h2)
    refine lc_none (xs := [V.ref a27, V.ref a28, V.ref a32, V.ref a6]) (Or.inl (Or.inl upd_same)) (fun x => rfl) (fun x hx H2 B s2 b => ?_) (fun D2 q2 => ?_)
    · obtain ⟨i, hi, ni, hf, m⟩ := R x hx
      walk_at "go"
      refine g_kg ?_
      walk_at "go"
      obtain ⟨a1, C1, z1, fs1, w1, w2, w3, w4, w5⟩ := fld T (m.same s2) hi ni hf
      refine ⟨a1, C1, z1, fs1, v, w1, w2, w3, w4, w5, ?_⟩
      walk_at "go"
      refine ⟨p, v, rfl, hv.same (s0.trans s2), ?_⟩
      walk_at "go"
      exact b
    replace s0 := s0.trans (same_new (o := .lst []) q2)
    walk_at "go"
    rename_i d2 w2
    refine ⟨.list [], .list [], .lst (Or.inl (Or.inl (upd_keep w2 upd_same))) .nil, .lst (Or.inl (Or.inl upd_same)) .nil, rfl, rfl, ?_⟩
    replace s0 := s0.trans (same_new (o := .lst []) w2)
    rw [show PyData.eqv (.list []) (.list []) = true from by decide +kernel]
    walk_at "go"
    refine g_kg ?_
    walk_at "go"
    refine JgX.g_kxFV rfl fun a H' n e m => ?_
    obtain ⟨a1, C1, z1, fs1, w1, w2, w3, w4, w5⟩ := fld T (fl := Str.ofString "row") (made_of m (T.ca 23 (by decide)) rfl (by decide)) (by decide) (by decide) rfl
    refine ⟨a1, C1, z1, fs1, v, w1, w2, w3, w4, w5, ?_⟩
    walk_at "go"
    refine ⟨p, v, rfl, hv.same (s0.trans e), ?_⟩
    walk_at "go"
    exact q _ (s0.trans e)
end
section
variable {P : Program} {w : World} {K : PySem.W.Frag} {mg : Str → Option Value} {base : Heap} {f : Nat → Addr} {d : Nat → FuncData}
theorem ok_law_right (T : Txt P K mg f d) : FnG P w K mg base 4 (f 14) (d 14) ["_law_bag_here"] (sp_law_right K) := by
  refine fnG_of T.F_law_right sc_law_right (fun vs H Q E h => ?_) (fun cdv A outer s H vs Q E hr gua h => ?_)
  · obtain ⟨p, n, rfl, hn, B, q⟩ := h
    rfl
  · obtain ⟨p, n, rfl, hn, B, q⟩ := h
    refine ⟨_, (pss_cons (ps_set (i := 1) sc_law_right.nd rfl (.inl rfl) (pe_ix (ix_listV (K := K)) (pe_lst (pa_cons (pe_call (ok_law_any T) (hr.mono (by decide)) rfl T.m__law_any T.k__law_any T.b__law_any .nil pass0 (pa_cons (pv 0) pa_nil)) (pa_cons (pe_call (ok_law_take T) (hr.mono (by decide)) rfl T.m__law_take T.k__law_take T.b__law_take .nil pass0 (pa_cons (pv 0) (pa_cons (pe_op op_pow pe_int pe_int) pa_nil))) (pa_cons (pe_lst (pa_cons (pe_call (ok_law_any T) (hr.mono (by decide)) rfl T.m__law_any T.k__law_any T.b__law_any .nil pass0 (pa_cons (pv 0) pa_nil)) pa_nil)) pa_nil)))) (pe_call (ok_law_take T) (hr.mono (by decide)) rfl T.m__law_take T.k__law_take T.b__law_take .nil pass0 (pa_cons (pv 0) (pa_cons pe_int pa_nil))) (fun _ _ => rfl)))
      (pss_cons (ps_if (pt_not (pt_val (pe_callG (ok_law_by_name_right T) (hr.mono (by decide)) gua rfl T.m__law_by_name_right T.k__law_by_name_right T.b__law_by_name_right .nil (pa_cons (pv 1) pa_nil)))) (pss_one (ps_ret pe_bl)) pss_nil)
      (pss_cons (ps_set (i := 2) sc_law_right.nd rfl (.inl rfl) (pe_op op_cat (pe_call (ok_law_made_first T) (hr.mono (by decide)) rfl T.m__law_made_first T.k__law_made_first T.b__law_made_first .nil pass0 (pa_cons (pv 1) pa_nil)) (pe_call (ok_law_made_last T) (hr.mono (by decide)) rfl T.m__law_made_last T.k__law_made_last T.b__law_made_last .nil pass0 (pa_cons (pv 1) pa_nil))))
      (pss_cons (ps_for PassesOwn.never rfl (pi_enum (by rfl) T.z_enumerate (pa_cons (pv 2) pa_nil)) (pg_tup (by rfl) (pgs_cons (pg_name (i := 3) sc_law_right.nd rfl (.inr rfl)) (pgs_cons (pg_name (i := 4) sc_law_right.nd rfl (.inl rfl)) pgs_nil))) (pss_cons (ps_set (i := 5) sc_law_right.nd rfl (.inl rfl) (pe_op op_cat (pe_call (ok_law_marks_first T) (hr.mono (by decide)) rfl T.m__law_marks_first T.k__law_marks_first T.b__law_marks_first .nil pass0 (pa_cons (pv 4) pa_nil)) (pe_call (ok_law_marks_last T) (hr.mono (by decide)) rfl T.m__law_marks_last T.k__law_marks_last T.b__law_marks_last .nil pass0 (pa_cons (pv 4) pa_nil))))
      (pss_cons (ps_if (PW.pt (pw_or (pt_cmpR (op_neD hr.units) (pv 5) (pe_lc (own := [("_law_k", 6)]) (g := gName 6) (tt := tYes) rfl sc_law_right.nd (pi_range1 (by rfl) T.z_range (pa_cons pe_int pa_nil)) (blkOk_by (own := [("_law_k", 6)]) (N := n_law_right) (sc := defScope s_law_right) (by decide +kernel)) (fun _ _ _ _ _ => pg_name (i := 6) sc_law_right.nd rfl (Or.inl rfl)) (fun _ _ _ _ _ => pts_nil) (fun _ _ _ _ _ => (pe_cmpR op_eq (pv 6) (pv 3) (nomark _)))) (nomark _)) (pw_or1 (pt_cmpR (op_neD hr.units) (pe_call (ok_law_families T) (hr.mono (by decide)) rfl T.m__law_families T.k__law_families T.b__law_families .nil pass0 (pa_cons (pv 4) pa_nil)) (pe_call (ok_law_family_of T) (hr.mono (by decide)) rfl T.m__law_family_of T.k__law_family_of T.b__law_family_of .nil pass0 (pa_cons (pv 3) pa_nil)) (nomark _))))) (pss_one (ps_ret pe_bl)) pss_nil)
      (pss_one (ps_if (PW.pt (pw_or (pt_not (pt_val (pe_callG (ok_law_fields_right T) (hr.mono (by decide)) gua rfl T.m__law_fields_right T.k__law_fields_right T.b__law_fields_right .nil (pa_cons (pv 3) (pa_cons (pv 4) (pa_cons (pv 1) pa_nil)))))) (pw_or1 (pt_not (pt_val (pe_callG (ok_law_taken T) (hr.mono (by decide)) gua rfl T.m__law_taken T.k__law_taken T.b__law_taken .nil (pa_cons (pv 4) (pa_cons (pv 3) pa_nil)))))))) (pss_one (ps_ret pe_bl)) pss_nil)))))
      (pss_cons (ps_for PassesOwn.never rfl (pi_list (pe_lst (pa_cons (pe_tup (pa_cons pe_int (pa_cons (JgX.pe_plain JgX.mkValue JgX.xValue.ini (by decide +kernel) (by first | rfl | decide +kernel) T.p_TermError rfl T.c_TermError pe_str) pa_nil))) (pa_cons (pe_tup (pa_cons pe_int (pa_cons (JgX.pe_plain JgX.mkKey JgX.xKey.ini (by decide +kernel) (by first | rfl | decide +kernel) T.p_Absent rfl T.c_Absent pe_str) pa_nil))) (pa_cons (pe_tup (pa_cons pe_int (pa_cons (JgX.pe_plain JgX.mkLookup JgX.xLookup.ini (by decide +kernel) (by first | rfl | decide +kernel) T.p_Ended rfl T.c_Ended pe_str) pa_nil))) pa_nil))))) (pg_tup (by rfl) (pgs_cons (pg_name (i := 3) sc_law_right.nd rfl (.inr rfl)) (pgs_cons (pg_name (i := 4) sc_law_right.nd rfl (.inl rfl)) pgs_nil))) (pss_one (ps_if (PW.pt (pw_or (pt_cmpR (op_inL (K := K)) pe_bl (pe_op op_cat (pe_call (ok_law_marks_first T) (hr.mono (by decide)) rfl T.m__law_marks_first T.k__law_marks_first T.b__law_marks_first .nil pass0 (pa_cons (pv 4) pa_nil)) (pe_call (ok_law_marks_last T) (hr.mono (by decide)) rfl T.m__law_marks_last T.k__law_marks_last T.b__law_marks_last .nil pass0 (pa_cons (pv 4) pa_nil))) rfl) (pw_or1 (pt_cmpR (op_neD hr.units) (pe_call (ok_law_families T) (hr.mono (by decide)) rfl T.m__law_families T.k__law_families T.b__law_families .nil pass0 (pa_cons (pv 4) pa_nil)) (pe_call (ok_law_family_of T) (hr.mono (by decide)) rfl T.m__law_family_of T.k__law_family_of T.b__law_family_of .nil pass0 (pa_cons (pv 3) pa_nil)) (nomark _))))) (pss_one (ps_ret pe_bl)) pss_nil)))
      (pss_one (ps_ret pe_bl))))))), ?_⟩
    walk_at "go"
    refine ⟨p, n, rfl, by omega, B, fun v1 H1 o1 x1 B1 M1 => ?_⟩
    walk_at "go"
    refine ⟨p, _, _, rfl, by decide, by decide, by omega, B1, fun z H2 z0 z1 B2 M2 => ?_⟩
    walk_at "go"
    rw [show (10 : Int) ^ Int.toNat 30 = 1000000000000000000000000000000 from rfl] at z1
    refine ⟨p, _, rfl, by omega, B2, fun v2 H3 o2 x2 B3 M3 => ?_⟩
    walk_at "go"
    rename_i c hc l hl
    have nc : c ≠ p := B3.ne hc
    refine ⟨p, 3, _, rfl, by decide, by decide, by omega, (B3.new hc).new hl, fun y H4 y0 y1 B4 M4 => ?_⟩
    walk_at "go"
    obtain ⟨v, hvv, ix⟩ := ix_draw (K := K) (M4 l _ ((B3.new hc).ne hl) upd_same) y0 y1 rfl
    refine ix _ ?_
    have M5 : Mv p H3 H4 := mv_new hl (mv_new hc (Mv.refl _ _)) |>.trans M4
    have hv : OneV p H4 v := by
      simp only [List.mem_cons, List.not_mem_nil, or_false] at hvv
      rcases hvv with rfl | rfl | rfl
      · exact o1.mv (not_dK B1) ((M2.trans M3).trans M5)
      · exact (one_leaf (dxD (.int _) (okX_int z0 z1)) rfl).1
      · obtain ⟨d, hd⟩ := x2
        have hd2 : Dx p (upd (upd H3 c (HO.lst [v2])) l (HO.lst [v1, .int z, .ref c])) v2 d := hd.mv (not_dK B3) (mv_new hl (mv_new hc (Mv.refl _ _)))
        have hd4 : Dx p H4 v2 d := hd.mv (not_dK B3) M5
        have hd5 : Dx c H4 v2 d := (hd2).mv2 (not_dK ((B3.new hc).new hl)) M4 ((hd.fresh hc).same ((same_new hc).trans (same_new hl)))
        exact Or.inr (Or.inr ⟨c, v2, d, nc, rfl, M4 c _ nc (upd_keep hl upd_same), hd5, hd4⟩)
    walk_at "go"
    refine ⟨p, v, rfl, hv, fun H5 s5 => ?_⟩
    walk_at "go"
    refine ⟨v, rfl, fun D1 H6 LA s6 e6 l6 R6 => ?_⟩
    walk_at "go"
    refine ⟨v, rfl, fun D2 H7 LB s7 e7 l7 R7 => ?_⟩
    walk_at "go"
    refine g_cat (s7 _ _ e6) e7 (Nat.le_trans (m := 100) (by omega) (by decide)) fun D hD => ?_
    walk_at "go"
    refine g_en ?_
    walk_at "go"
    have new := same_new (o := .lst (LA ++ LB)) hD
    have R := (R6.same (s7.trans new)).both (R7.same new) l6
    have hv0 : OneV p (upd H7 D (HO.lst (LA ++ LB))) v := hv.same ((s5.trans (s6.trans s7)).trans new)
    have eD : (upd H7 D (HO.lst (LA ++ LB))) D = some (.lst (LA ++ LB)) := upd_same
    have Mz : Mv p H (upd H7 D (HO.lst (LA ++ LB))) := (((M1.trans M2).trans M3).trans M5).trans (mv_same ((s5.trans (s6.trans s7)).trans new))
    generalize upd H7 D (HO.lst (LA ++ LB)) = Hm at R hv0 eD Mz ⊢
    refine ⟨D, _, rfl, Or.inl (Or.inl eD), ?_⟩
    refine for_it (walk_enum (xs := LA ++ LB)) (fun i σ H' => ∃ x3 x4 x5 x6, σ = [some (.ref p), some v, some (.ref D), x3, x4, x5, x6] ∧ Same Hm H')
      ⟨none, none, none, none, rfl, fun _ _ e => e⟩ (fun i σ H' _ hp => ?_) ?_ ?_
    · obtain ⟨_, _, _, _, _, s⟩ := hp
      exact Or.inl (Or.inl (s _ _ eD))
    · rintro i x σ Ha Hb hi ⟨x3, x4, x5, x6, rfl, sa⟩ ⟨T1, xa, xb, rfl, hT, rfl, ea, eb⟩
      injection ea with ea
      subst ea
      have hi' : i < 34 := by
        rw [List.length_append] at hi
        omega
      have m0 := R i xb eb
      rw [Nat.zero_add] at m0
      have sb : Same Hm (upd Ha T1 (.tup [.int (i : Int), xb])) := sa.trans (same_new hT)
      refine ⟨T1, _, rfl, Or.inl (Or.inl upd_same), rfl, _, _, rfl, _, _, rfl, rfl, ?_⟩
      walk_at "go"
      refine ⟨xb, i, rfl, ⟨by omega, (m0.same sb).ex⟩, fun Da Hc sc ec => ?_⟩
      walk_at "go"
      refine ⟨xb, i, rfl, ⟨by omega, (m0.same (sb.trans sc)).ex⟩, fun Db Hd sd ed => ?_⟩
      walk_at "go"
      refine g_cat (sd _ _ ec) ed (Nat.le_trans (m := 100) (by simp) (by decide)) fun Dc hDc => ?_
      rw [marks_v]
      have sc2 := (sb.trans (sc.trans sd)).trans (same_new (o := .lst ((marksB i).map V.bl)) hDc)
      walk_at "go"
      refine lc_rngF (n := 34) (fun j => .bl (decide (V.int (0 + (j : Int)) = V.int (i : Int)))) (by decide) (fun x => rfl) (fun j H2 R2 hj s2 r2 => ?_) (fun De hDe => ?_)
      · walk_at "go"
        exact r2
      rw [kth_v]
      have sc3 := sc2.trans (same_new (o := .lst ((kthB i).map V.bl)) hDe)
      walk_at "go"
      refine ⟨.list ((marksB i).map .bool), .list ((kthB i).map .bool), .lst (Or.inl (Or.inl (upd_keep hDe upd_same))) (dp_bl _), .lst (Or.inl (Or.inl upd_same)) (dp_bl _), (marks_same i hi').2.1, (marks_same i hi').2.2, ?_⟩
      rw [(marks_same i hi').1]
      walk_at "go"
      refine ⟨xb, i, rfl, ⟨by omega, (m0.same sc3).ex⟩, fun Df He se ee => ?_⟩
      walk_at "go"
      refine ⟨i, rfl, hi', fun Dg Hf sf ef => ?_⟩
      walk_at "go"
      rw [fam_v] at ee ef
      have sc4 := sc3.trans (se.trans sf)
      refine ⟨.list ((famB i).map .bool), .list ((famB i).map .bool), .lst (Or.inl (Or.inl (sf _ _ ee))) (dp_bl _), .lst (Or.inl (Or.inl ef)) (dp_bl _), (fam_same i (by omega)).2, (fam_same i (by omega)).2, ?_⟩
      rw [(fam_same i (by omega)).1]
      walk_at "go"
      refine ⟨p, v, xb, i, rfl, hi', m0.same sc4, hv0.same sc4, ?_⟩
      walk_at "go"
      refine ⟨xb, i, rfl, hi', ⟨by omega, (m0.same sc4).ex⟩, ?_⟩
      walk_at "go"
      exact ⟨_, _, _, _, rfl, sc4⟩
    · rintro σ Ha ⟨x3, x4, x5, x6, rfl, sa⟩
      walk_at "go"
      refine JgX.g_pl fun y1 hy1 => ?_
      walk_at "go"
      rename_i t1 ht1
      refine JgX.g_pl fun y2 hy2 => ?_
      walk_at "go"
      rename_i t2 ht2
      refine JgX.g_pl fun y3 hy3 => ?_
      walk_at "go"
      rename_i t3 ht3 l hl
      have sz : Same Ha (upd (upd (upd (upd (upd (upd (upd Ha y1 (exo y1 (f 168) none)) t1 (.tup [.int 0, .ref y1])) y2 (exo y2 (f 170) none)) t2 (.tup [.int 29, .ref y2])) y3 (exo y3 (f 172) none)) t3 (.tup [.int 31, .ref y3])) l (.lst [.ref t1, .ref t2, .ref t3])) :=
        ((((((same_new hy1).trans (same_new ht1)).trans (same_new hy2)).trans (same_new ht2)).trans (same_new hy3)).trans (same_new ht3)).trans (same_new hl)
      have el : (upd (upd (upd (upd (upd (upd (upd Ha y1 (exo y1 (f 168) none)) t1 (.tup [.int 0, .ref y1])) y2 (exo y2 (f 170) none)) t2 (.tup [.int 29, .ref y2])) y3 (exo y3 (f 172) none)) t3 (.tup [.int 31, .ref y3])) l (.lst [.ref t1, .ref t2, .ref t3])) l = some (.lst [.ref t1, .ref t2, .ref t3]) := upd_same
      have w1 : (upd (upd (upd (upd (upd (upd (upd Ha y1 (exo y1 (f 168) none)) t1 (.tup [.int 0, .ref y1])) y2 (exo y2 (f 170) none)) t2 (.tup [.int 29, .ref y2])) y3 (exo y3 (f 172) none)) t3 (.tup [.int 31, .ref y3])) l (.lst [.ref t1, .ref t2, .ref t3])) y1 = some (exo y1 (f 168) none) := by walk_at "hx"
      have w2 : (upd (upd (upd (upd (upd (upd (upd Ha y1 (exo y1 (f 168) none)) t1 (.tup [.int 0, .ref y1])) y2 (exo y2 (f 170) none)) t2 (.tup [.int 29, .ref y2])) y3 (exo y3 (f 172) none)) t3 (.tup [.int 31, .ref y3])) l (.lst [.ref t1, .ref t2, .ref t3])) y2 = some (exo y2 (f 170) none) := by walk_at "hx"
      have w3 : (upd (upd (upd (upd (upd (upd (upd Ha y1 (exo y1 (f 168) none)) t1 (.tup [.int 0, .ref y1])) y2 (exo y2 (f 170) none)) t2 (.tup [.int 29, .ref y2])) y3 (exo y3 (f 172) none)) t3 (.tup [.int 31, .ref y3])) l (.lst [.ref t1, .ref t2, .ref t3])) y3 = some (exo y3 (f 172) none) := by walk_at "hx"
      have u1 : (upd (upd (upd (upd (upd (upd (upd Ha y1 (exo y1 (f 168) none)) t1 (.tup [.int 0, .ref y1])) y2 (exo y2 (f 170) none)) t2 (.tup [.int 29, .ref y2])) y3 (exo y3 (f 172) none)) t3 (.tup [.int 31, .ref y3])) l (.lst [.ref t1, .ref t2, .ref t3])) t1 = some (.tup [.int 0, .ref y1]) := by walk_at "hx"
      have u2 : (upd (upd (upd (upd (upd (upd (upd Ha y1 (exo y1 (f 168) none)) t1 (.tup [.int 0, .ref y1])) y2 (exo y2 (f 170) none)) t2 (.tup [.int 29, .ref y2])) y3 (exo y3 (f 172) none)) t3 (.tup [.int 31, .ref y3])) l (.lst [.ref t1, .ref t2, .ref t3])) t2 = some (.tup [.int 29, .ref y2]) := by walk_at "hx"
      have u3 : (upd (upd (upd (upd (upd (upd (upd Ha y1 (exo y1 (f 168) none)) t1 (.tup [.int 0, .ref y1])) y2 (exo y2 (f 170) none)) t2 (.tup [.int 29, .ref y2])) y3 (exo y3 (f 172) none)) t3 (.tup [.int 31, .ref y3])) l (.lst [.ref t1, .ref t2, .ref t3])) t3 = some (.tup [.int 31, .ref y3]) := by walk_at "hx"
      generalize upd (upd (upd (upd (upd (upd (upd Ha y1 (exo y1 (f 168) none)) t1 (.tup [.int 0, .ref y1])) y2 (exo y2 (f 170) none)) t2 (.tup [.int 29, .ref y2])) y3 (exo y3 (f 172) none)) t3 (.tup [.int 31, .ref y3])) l (.lst [.ref t1, .ref t2, .ref t3]) = Hn at sz el w1 w2 w3 u1 u2 u3 ⊢
      refine for_it (walk_list (xs := [.ref t1, .ref t2, .ref t3])) (fun i σ H' => ∃ x3 x4 x5 x6, σ = [some (.ref p), some v, some (.ref D), x3, x4, x5, x6] ∧ Same Hn H')
        ⟨_, _, _, _, rfl, fun _ _ e => e⟩ (fun i σ H' _ hp => ?_) ?_ ?_
      · obtain ⟨_, _, _, _, _, s⟩ := hp
        exact Or.inl (Or.inl (s _ _ el))
      · rintro i x σ Hb Hc hi ⟨x3, x4, x5, x6, rfl, sb⟩ ⟨rfl, ex⟩
        have fact : ∃ (j pl : Nat) (t y : Addr), x = .ref t ∧ Hn t = some (.tup [.int (pl : Int), .ref y]) ∧ Hn y = some (exo y (f (100 + 2 * j)) none) ∧ 34 ≤ j ∧ j < 37 ∧ pl < 34 ∧ famB pl = famB j := by
          match i, ex with
          | 0, ex =>
            cases ex
            exact ⟨34, 0, t1, y1, rfl, u1, w1, by decide, by decide, by decide, by decide⟩
          | 1, ex =>
            cases ex
            exact ⟨35, 29, t2, y2, rfl, u2, w2, by decide, by decide, by decide, by decide⟩
          | 2, ex =>
            cases ex
            exact ⟨36, 31, t3, y3, rfl, u3, w3, by decide, by decide, by decide, by decide⟩
          | i + 3, ex => cases ex
        obtain ⟨j, pl, t, y, rfl, et, ey, j1, j2, hpl, hfam⟩ := fact
        have he : ∀ {H' : Hp}, Same Hn H' → Exn K H' (.ref y) j := fun s => ⟨j2, y, rfl, Or.inr (by rw [T.ca j j2]; exact s _ _ ey)⟩
        refine ⟨t, _, rfl, Or.inl (Or.inl (sb _ _ et)), rfl, _, _, rfl, _, _, rfl, rfl, ?_⟩
        walk_at "go"
        refine ⟨.ref y, j, rfl, he sb, fun Da Hd sc ec => ?_⟩
        walk_at "go"
        refine ⟨.ref y, j, rfl, he (sb.trans sc), fun Db He sd ed => ?_⟩
        walk_at "go"
        refine g_cat (sd _ _ ec) ed (Nat.le_trans (m := 100) (by simp) (by decide)) fun Dc hDc => ?_
        rw [marks_v]
        have sc2 := (sb.trans (sc.trans sd)).trans (same_new (o := .lst ((marksB j).map V.bl)) hDc)
        walk_at "go"
        refine g_inL (Or.inl (Or.inl upd_same)) rfl (no_marks j j2 j1).2 ?_
        rw [(no_marks j j2 j1).1]
        walk_at "go"
        refine ⟨.ref y, j, rfl, he sc2, fun Df Hf se ee => ?_⟩
        walk_at "go"
        refine ⟨pl, rfl, hpl, fun Dg Hg sf ef => ?_⟩
        walk_at "go"
        rw [fam_v] at ee ef
        rw [hfam] at ef
        have sc4 := sc2.trans (se.trans sf)
        refine ⟨.list ((famB j).map .bool), .list ((famB j).map .bool), .lst (Or.inl (Or.inl (sf _ _ ee))) (dp_bl _), .lst (Or.inl (Or.inl ef)) (dp_bl _), (fam_same j j2).2, (fam_same j j2).2, ?_⟩
        rw [(fam_same j j2).1]
        walk_at "go"
        exact ⟨_, _, _, _, rfl, sc4⟩
      · rintro σ Hb ⟨x3, x4, x5, x6, rfl, sb⟩
        walk_at "go"
        exact q _ (Mz.trans (mv_same ((sa.trans sz).trans sb)))
end
section
variable {P : Program} {w : World} {K : PySem.W.Frag} {mg : Str → Option Value} {base : Heap} {f : Nat → Addr} {d : Nat → FuncData}
theorem ok_law (T : Txt P K mg f d) : FnG P w K mg base 5 (f 15) (d 15) ["_law_script"] (sp_law K) := by
  refine fnG_of T.F_law sc_law (fun vs H Q E h => ?_) (fun cdv A outer s H vs Q E hr gua h => ?_)
  · obtain ⟨a, ns, rfl, hS, hlen, q⟩ := h
    rfl
  · obtain ⟨a, ns, rfl, hS, hlen, q⟩ := h
    refine ⟨_, (pss_cons (ps_for PassesOwn.never rfl (pi_range1 (by rfl) T.z_range (pa_cons (pe_callB (call_maxV rfl) (by rfl) T.z_max (by decide +kernel) (pa_cons pe_int (pa_cons (pe_callB (call_minV rfl) (by rfl) T.z_min (by decide +kernel) (pa_cons pe_int (pa_cons (pe_callB (call_lenV (K := K)) (by rfl) T.z_len (by decide +kernel) (pa_cons (pv 0) pa_nil)) pa_nil))) pa_nil))) pa_nil)) (pg_name (i := 1) sc_law.nd rfl (.inl rfl)) (pss_one (ps_if (pt_not (pt_val (pe_callG (ok_law_right T) (hr.mono (by decide)) gua rfl T.m__law_right T.k__law_right T.b__law_right .nil (pa_cons (pe_call (ok_law_bag T) (hr.mono (by decide)) rfl T.m__law_bag T.k__law_bag T.b__law_bag .nil pass0 (pa_cons (pe_call (ok_law_cell T) (hr.mono (by decide)) rfl T.m__law_cell T.k__law_cell T.b__law_cell .nil pass0 (pa_cons (pv 0) (pa_cons (pv 1) pa_nil))) pa_nil)) pa_nil)))) (pss_one (ps_ret pe_bl)) pss_nil)))
      (pss_one (ps_ret pe_bl))), ?_⟩
    walk_at "go"
    refine for_it (n := _) walk_range (fun i σ H' => ∃ v1, σ = [some (.ref a), v1] ∧ SqL K H' a (ns.map V.int))
      ⟨none, rfl, hS⟩ (fun _ _ _ _ _ => trivial) ?_ ?_
    · rintro i x σ H1 H2 hi ⟨v1, rfl, hS1⟩ ⟨rfl, rfl⟩
      have hi' : i ≤ 63 := by
        revert hi
        split <;> split <;> omega
      walk_at "go"
      refine ⟨a, ns, i, by simp, hS1, hi', fun z => ?_⟩
      walk_at "go"
      refine ⟨z, rfl, fun p H3 hp s3 B3 => ?_⟩
      walk_at "go"
      refine ⟨p, 0, rfl, by decide, B3, fun H4 M4 => ?_⟩
      walk_at "go"
      exact ⟨_, rfl, sq_same (fun b o e => M4 b o (ne_of_none e hp) (s3 b o e)) hS1⟩
    · rintro σ H1 ⟨v1, rfl, hS1⟩
      walk_at "go"
      exact q _
end
theorem txt_of {K : PySem.W.Frag} {h : Heap} {mg : Str → Option Value} (X : K.In h) (G : h.Ns mainGlobals mg) (c : JgHd.obsJ fx ad K = (true, vsx)) :
    ∃ (f : Nat → Addr) (d : Nat → FuncData), Txt PR K mg f d ∧ mg "law" = some (.ref (f 15)) ∧ ∀ (s : Shared) (v : Value), BindsTo s (d 15) ⟨[v], []⟩ [("_law_script", v)] := by
  obtain ⟨d0, F0⟩ := JgHd.fun_of (says_0 c) (fa_1 c)
  have b0 := F0.binds (ps := ["_law_script", "_law_k"]) fun _ _ _ _ _ _ us hl => match us, hl with | [_, _], _ => rfl
  obtain ⟨d1, F1⟩ := JgHd.fun_of (says_1 c) (fa_3 c)
  have b1 := F1.binds (ps := ["_law_cell_here"]) fun _ _ _ _ _ _ us hl => match us, hl with | [_], _ => rfl
  obtain ⟨d2, F2⟩ := JgHd.fun_of (says_2 c) (fa_5 c)
  have b2 := F2.binds (ps := ["_law_bag_here", "_law_much"]) fun _ _ _ _ _ _ us hl => match us, hl with | [_, _], _ => rfl
  obtain ⟨d3, F3⟩ := JgHd.fun_of (says_3 c) (fa_7 c)
  have b3 := F3.binds (ps := ["_law_e"]) fun _ _ _ _ _ _ us hl => match us, hl with | [_], _ => rfl
  obtain ⟨d4, F4⟩ := JgHd.fun_of (says_4 c) (fa_9 c)
  have b4 := F4.binds (ps := ["_law_e"]) fun _ _ _ _ _ _ us hl => match us, hl with | [_], _ => rfl
  obtain ⟨d5, F5⟩ := JgHd.fun_of (says_5 c) (fa_11 c)
  have b5 := F5.binds (ps := ["_law_e"]) fun _ _ _ _ _ _ us hl => match us, hl with | [_], _ => rfl
  obtain ⟨d6, F6⟩ := JgHd.fun_of (says_6 c) (fa_13 c)
  have b6 := F6.binds (ps := ["_law_place"]) fun _ _ _ _ _ _ us hl => match us, hl with | [_], _ => rfl
  obtain ⟨d7, F7⟩ := JgHd.fun_of (says_7 c) (fa_15 c)
  have b7 := F7.binds (ps := ["_law_one"]) fun _ _ _ _ _ _ us hl => match us, hl with | [_], _ => rfl
  obtain ⟨d8, F8⟩ := JgHd.fun_of (says_8 c) (fa_17 c)
  have b8 := F8.binds (ps := ["_law_one"]) fun _ _ _ _ _ _ us hl => match us, hl with | [_], _ => rfl
  obtain ⟨d9, F9⟩ := JgHd.fun_of (says_9 c) (fa_19 c)
  have b9 := F9.binds (ps := ["_law_bag_here"]) fun _ _ _ _ _ _ us hl => match us, hl with | [_], _ => rfl
  obtain ⟨d10, F10⟩ := JgHd.fun_of (says_10 c) (fa_21 c)
  have b10 := F10.binds (ps := ["_law_gained", "_law_thing"]) fun _ _ _ _ _ _ us hl => match us, hl with | [_, _], _ => rfl
  obtain ⟨d11, F11⟩ := JgHd.fun_of (says_11 c) (fa_23 c)
  have b11 := F11.binds (ps := ["_law_place", "_law_e", "_law_one"]) fun _ _ _ _ _ _ us hl => match us, hl with | [_, _, _], _ => rfl
  obtain ⟨d12, F12⟩ := JgHd.fun_of (says_12 c) (fa_25 c)
  have b12 := F12.binds (ps := ["_law_e", "_law_place"]) fun _ _ _ _ _ _ us hl => match us, hl with | [_, _], _ => rfl
  obtain ⟨d13, F13⟩ := JgHd.fun_of (says_13 c) (fa_27 c)
  have b13 := F13.binds (ps := ["_law_one"]) fun _ _ _ _ _ _ us hl => match us, hl with | [_], _ => rfl
  obtain ⟨d14, F14⟩ := JgHd.fun_of (says_14 c) (fa_29 c)
  have b14 := F14.binds (ps := ["_law_bag_here"]) fun _ _ _ _ _ _ us hl => match us, hl with | [_], _ => rfl
  obtain ⟨d15, F15⟩ := JgHd.fun_of (says_15 c) (fa_31 c)
  have b15 := F15.binds (ps := ["_law_script"]) fun _ _ _ _ _ _ us hl => match us, hl with | [_], _ => rfl
  obtain ⟨dx0, Xq0⟩ := JgHd.ct_of (P := PR) (st := xs_NoName) (B := "ValueError") X G (fa_44 c) (fa_45 c) (says_16 c)
  have Xa0 := Xq0.xa
  obtain ⟨dx1, Xq1⟩ := JgHd.ct_of (P := PR) (st := xs_NoWords) (B := "ValueError") X G (fa_44 c) (fa_46 c) (says_17 c)
  have Xa1 := Xq1.xa
  obtain ⟨dx2, Xq2⟩ := JgHd.ct_of (P := PR) (st := xs_NoSigns) (B := "ValueError") X G (fa_44 c) (fa_47 c) (says_18 c)
  have Xa2 := Xq2.xa
  obtain ⟨dx3, Xq3⟩ := JgHd.ct_of (P := PR) (st := xs_NoSign) (B := "ValueError") X G (fa_44 c) (fa_48 c) (says_19 c)
  have Xa3 := Xq3.xa
  obtain ⟨dx4, Xq4⟩ := JgHd.ct_of (P := PR) (st := xs_NoWord) (B := "ValueError") X G (fa_44 c) (fa_49 c) (says_20 c)
  have Xa4 := Xq4.xa
  obtain ⟨dx5, Xq5⟩ := JgHd.ct_of (P := PR) (st := xs_Beyond) (B := "ValueError") X G (fa_44 c) (fa_50 c) (says_21 c)
  have Xa5 := Xq5.xa
  obtain ⟨dx6, Xq6⟩ := JgHd.ct_of (P := PR) (st := xs_Unended) (B := "ValueError") X G (fa_44 c) (fa_51 c) (says_22 c)
  have Xa6 := Xq6.xa
  obtain ⟨dx7, Xq7⟩ := JgHd.ct_of (P := PR) (st := xs_NoTerm) (B := "ValueError") X G (fa_44 c) (fa_52 c) (says_23 c)
  have Xa7 := Xq7.xa
  obtain ⟨dx8, Xq8⟩ := JgHd.ct_of (P := PR) (st := xs_NoTerms) (B := "ValueError") X G (fa_44 c) (fa_53 c) (says_24 c)
  have Xa8 := Xq8.xa
  obtain ⟨dx9, Xq9⟩ := JgHd.ct_of (P := PR) (st := xs_NoLetter) (B := "ValueError") X G (fa_44 c) (fa_54 c) (says_25 c)
  have Xa9 := Xq9.xa
  obtain ⟨dx10, Xq10⟩ := JgHd.ct_of (P := PR) (st := xs_NoPairs) (B := "ValueError") X G (fa_44 c) (fa_55 c) (says_26 c)
  have Xa10 := Xq10.xa
  obtain ⟨dx11, Xq11⟩ := JgHd.ct_of (P := PR) (st := xs_NoPutting) (B := "ValueError") X G (fa_44 c) (fa_56 c) (says_27 c)
  have Xa11 := Xq11.xa
  obtain ⟨dx12, Xq12⟩ := JgHd.ct_of (P := PR) (st := xs_NoWay) (B := "ValueError") X G (fa_44 c) (fa_57 c) (says_28 c)
  have Xa12 := Xq12.xa
  obtain ⟨dx13, Xq13⟩ := JgHd.ct_of (P := PR) (st := xs_NoNumber) (B := "ValueError") X G (fa_44 c) (fa_58 c) (says_29 c)
  have Xa13 := Xq13.xa
  obtain ⟨dx14, Xq14⟩ := JgHd.ct_of (P := PR) (st := xs_NoTruth) (B := "ValueError") X G (fa_44 c) (fa_59 c) (says_30 c)
  have Xa14 := Xq14.xa
  obtain ⟨dx15, Xq15⟩ := JgHd.ct_of (P := PR) (st := xs_NoNote) (B := "ValueError") X G (fa_44 c) (fa_60 c) (says_31 c)
  have Xa15 := Xq15.xa
  obtain ⟨dx16, Xq16⟩ := JgHd.ct_of (P := PR) (st := xs_NoList) (B := "ValueError") X G (fa_44 c) (fa_61 c) (says_32 c)
  have Xa16 := Xq16.xa
  obtain ⟨dx17, Xq17⟩ := JgHd.ct_of (P := PR) (st := xs_NoAsk) (B := "ValueError") X G (fa_44 c) (fa_62 c) (says_33 c)
  have Xa17 := Xq17.xa
  obtain ⟨dx18, Xq18⟩ := JgHd.ct_of (P := PR) (st := xs_NoRule) (B := "ValueError") X G (fa_44 c) (fa_63 c) (says_34 c)
  have Xa18 := Xq18.xa
  obtain ⟨dx19, Xq19⟩ := JgHd.ct_of (P := PR) (st := xs_NoRules) (B := "ValueError") X G (fa_44 c) (fa_64 c) (says_35 c)
  have Xa19 := Xq19.xa
  obtain ⟨dx20, Xq20⟩ := JgHd.ct_of (P := PR) (st := xs_NoRow) (B := "ValueError") X G (fa_44 c) (fa_65 c) (says_36 c)
  have Xa20 := Xq20.xa
  obtain ⟨dx21, Xq21⟩ := JgHd.ct_of (P := PR) (st := xs_NoShelf) (B := "ValueError") X G (fa_44 c) (fa_66 c) (says_37 c)
  have Xa21 := Xq21.xa
  obtain ⟨dx22, Xq22⟩ := JgHd.ct_of (P := PR) (st := xs_NoDeed) (B := "ValueError") X G (fa_44 c) (fa_67 c) (says_38 c)
  have Xa22 := Xq22.xa
  obtain ⟨dx23, Xq23⟩ := JgHd.ct_of (P := PR) (st := xs_NoText) (B := "ValueError") X G (fa_44 c) (fa_68 c) (says_39 c)
  have Xa23 := Xq23.xa
  obtain ⟨dx24, Xq24⟩ := JgHd.ct_of (P := PR) (st := xs_NoLine) (B := "ValueError") X G (fa_44 c) (fa_69 c) (says_40 c)
  have Xa24 := Xq24.xa
  obtain ⟨dx25, Xq25⟩ := JgHd.ct_of (P := PR) (st := xs_Unlike) (B := "ValueError") X G (fa_44 c) (fa_70 c) (says_41 c)
  have Xa25 := Xq25.xa
  obtain ⟨dx26, Xq26⟩ := JgHd.ct_of (P := PR) (st := xs_Twice) (B := "ValueError") X G (fa_44 c) (fa_71 c) (says_42 c)
  have Xa26 := Xq26.xa
  obtain ⟨dx27, Xq27⟩ := JgHd.ct_of (P := PR) (st := xs_TooMany) (B := "ValueError") X G (fa_44 c) (fa_72 c) (says_43 c)
  have Xa27 := Xq27.xa
  obtain ⟨dx28, Xq28⟩ := JgHd.ct_of (P := PR) (st := xs_TooGreat) (B := "ValueError") X G (fa_44 c) (fa_73 c) (says_44 c)
  have Xa28 := Xq28.xa
  obtain ⟨dx29, Xq29⟩ := JgHd.ct_of (P := PR) (st := xs_NotThere) (B := "KeyError") X G (fa_44 c) (fa_74 c) (says_45 c)
  have Xa29 := Xq29.xa
  obtain ⟨dx30, Xq30⟩ := JgHd.ct_of (P := PR) (st := xs_NoSpot) (B := "KeyError") X G (fa_44 c) (fa_75 c) (says_46 c)
  have Xa30 := Xq30.xa
  obtain ⟨dx31, Xq31⟩ := JgHd.ct_of (P := PR) (st := xs_NoMore) (B := "LookupError") X G (fa_44 c) (fa_76 c) (says_47 c)
  have Xa31 := Xq31.xa
  obtain ⟨dx32, Xq32⟩ := JgHd.ct_of (P := PR) (st := xs_Changed) (B := "LookupError") X G (fa_44 c) (fa_77 c) (says_48 c)
  have Xa32 := Xq32.xa
  obtain ⟨dx33, Xq33⟩ := JgHd.ct_of (P := PR) (st := xs_Endless) (B := "LookupError") X G (fa_44 c) (fa_78 c) (says_49 c)
  have Xa33 := Xq33.xa
  obtain ⟨xm34, xp34, Xa34, xt34⟩ := JgHd.pl_of (B := "ValueError") (fa_44 c) (fa_79 c)
  obtain ⟨xm35, xp35, Xa35, xt35⟩ := JgHd.pl_of (B := "KeyError") (fa_44 c) (fa_80 c)
  obtain ⟨xm36, xp36, Xa36, xt36⟩ := JgHd.pl_of (B := "LookupError") (fa_44 c) (fa_81 c)
  have xcls := (fa_84 c)
  have xtab := (fa_85 c)
  let f : Nat → Addr := fun i => if i < 100 then [He.ga K "_law_cell", He.ga K "_law_bag", He.ga K "_law_take", He.ga K "_law_marks_first", He.ga K "_law_marks_last", He.ga K "_law_families", He.ga K "_law_family_of", He.ga K "_law_made_first", He.ga K "_law_made_last", He.ga K "_law_any", He.ga K "_law_very", He.ga K "_law_fields_right", He.ga K "_law_taken", He.ga K "_law_by_name_right", He.ga K "_law_right", He.ga K "law"].getD i 0 else [He.ga K "NoName", He.ma K (He.ga K "NoName") "__init__", He.ga K "NoWords", He.ma K (He.ga K "NoWords") "__init__", He.ga K "NoSigns", He.ma K (He.ga K "NoSigns") "__init__", He.ga K "NoSign", He.ma K (He.ga K "NoSign") "__init__", He.ga K "NoWord", He.ma K (He.ga K "NoWord") "__init__", He.ga K "Beyond", He.ma K (He.ga K "Beyond") "__init__", He.ga K "Unended", He.ma K (He.ga K "Unended") "__init__", He.ga K "NoTerm", He.ma K (He.ga K "NoTerm") "__init__", He.ga K "NoTerms", He.ma K (He.ga K "NoTerms") "__init__", He.ga K "NoLetter", He.ma K (He.ga K "NoLetter") "__init__", He.ga K "NoPairs", He.ma K (He.ga K "NoPairs") "__init__", He.ga K "NoPutting", He.ma K (He.ga K "NoPutting") "__init__", He.ga K "NoWay", He.ma K (He.ga K "NoWay") "__init__", He.ga K "NoNumber", He.ma K (He.ga K "NoNumber") "__init__", He.ga K "NoTruth", He.ma K (He.ga K "NoTruth") "__init__", He.ga K "NoNote", He.ma K (He.ga K "NoNote") "__init__", He.ga K "NoList", He.ma K (He.ga K "NoList") "__init__", He.ga K "NoAsk", He.ma K (He.ga K "NoAsk") "__init__", He.ga K "NoRule", He.ma K (He.ga K "NoRule") "__init__", He.ga K "NoRules", He.ma K (He.ga K "NoRules") "__init__", He.ga K "NoRow", He.ma K (He.ga K "NoRow") "__init__", He.ga K "NoShelf", He.ma K (He.ga K "NoShelf") "__init__", He.ga K "NoDeed", He.ma K (He.ga K "NoDeed") "__init__", He.ga K "NoText", He.ma K (He.ga K "NoText") "__init__", He.ga K "NoLine", He.ma K (He.ga K "NoLine") "__init__", He.ga K "Unlike", He.ma K (He.ga K "Unlike") "__init__", He.ga K "Twice", He.ma K (He.ga K "Twice") "__init__", He.ga K "TooMany", He.ma K (He.ga K "TooMany") "__init__", He.ga K "TooGreat", He.ma K (He.ga K "TooGreat") "__init__", He.ga K "NotThere", He.ma K (He.ga K "NotThere") "__init__", He.ga K "NoSpot", He.ma K (He.ga K "NoSpot") "__init__", He.ga K "NoMore", He.ma K (He.ga K "NoMore") "__init__", He.ga K "Changed", He.ma K (He.ga K "Changed") "__init__", He.ga K "Endless", He.ma K (He.ga K "Endless") "__init__", He.ga K "TermError", He.ga K "TermError", He.ga K "Absent", He.ga K "Absent", He.ga K "Ended", He.ga K "Ended"].getD (i - 100) 0
  let d : Nat → FuncData := fun i => match i with | 0 => d0 | 1 => d1 | 2 => d2 | 3 => d3 | 4 => d4 | 5 => d5 | 6 => d6 | 7 => d7 | 8 => d8 | 9 => d9 | 10 => d10 | 11 => d11 | 12 => d12 | 13 => d13 | 14 => d14 | 15 => d15 | 100 => dx0 | 102 => dx1 | 104 => dx2 | 106 => dx3 | 108 => dx4 | 110 => dx5 | 112 => dx6 | 114 => dx7 | 116 => dx8 | 118 => dx9 | 120 => dx10 | 122 => dx11 | 124 => dx12 | 126 => dx13 | 128 => dx14 | 130 => dx15 | 132 => dx16 | 134 => dx17 | 136 => dx18 | 138 => dx19 | 140 => dx20 | 142 => dx21 | 144 => dx22 | 146 => dx23 | 148 => dx24 | 150 => dx25 | 152 => dx26 | 154 => dx27 | 156 => dx28 | 158 => dx29 | 160 => dx30 | 162 => dx31 | 164 => dx32 | 166 => dx33 | _ => d15
  rw [JgHd.frRows_eq] at xtab
  obtain ⟨xkin, xt_⟩ := JgHd.ba xtab
  obtain ⟨xtV, xt_⟩ := JgHd.ba xt_
  obtain ⟨xtK, xtL⟩ := JgHd.ba xt_
  have cls := JgHd.rows_in xcls
  have row : ∀ i, i < 37 → ∃ bm, (JgHd.rowK K namesX)[i]? = some (f (100 + 2 * i), bm) := by
    intro i hi
    match i, hi with
    | 0, _ => exact ⟨_, JgHd.row_at 0⟩
    | 1, _ => exact ⟨_, JgHd.row_at 1⟩
    | 2, _ => exact ⟨_, JgHd.row_at 2⟩
    | 3, _ => exact ⟨_, JgHd.row_at 3⟩
    | 4, _ => exact ⟨_, JgHd.row_at 4⟩
    | 5, _ => exact ⟨_, JgHd.row_at 5⟩
    | 6, _ => exact ⟨_, JgHd.row_at 6⟩
    | 7, _ => exact ⟨_, JgHd.row_at 7⟩
    | 8, _ => exact ⟨_, JgHd.row_at 8⟩
    | 9, _ => exact ⟨_, JgHd.row_at 9⟩
    | 10, _ => exact ⟨_, JgHd.row_at 10⟩
    | 11, _ => exact ⟨_, JgHd.row_at 11⟩
    | 12, _ => exact ⟨_, JgHd.row_at 12⟩
    | 13, _ => exact ⟨_, JgHd.row_at 13⟩
    | 14, _ => exact ⟨_, JgHd.row_at 14⟩
    | 15, _ => exact ⟨_, JgHd.row_at 15⟩
    | 16, _ => exact ⟨_, JgHd.row_at 16⟩
    | 17, _ => exact ⟨_, JgHd.row_at 17⟩
    | 18, _ => exact ⟨_, JgHd.row_at 18⟩
    | 19, _ => exact ⟨_, JgHd.row_at 19⟩
    | 20, _ => exact ⟨_, JgHd.row_at 20⟩
    | 21, _ => exact ⟨_, JgHd.row_at 21⟩
    | 22, _ => exact ⟨_, JgHd.row_at 22⟩
    | 23, _ => exact ⟨_, JgHd.row_at 23⟩
    | 24, _ => exact ⟨_, JgHd.row_at 24⟩
    | 25, _ => exact ⟨_, JgHd.row_at 25⟩
    | 26, _ => exact ⟨_, JgHd.row_at 26⟩
    | 27, _ => exact ⟨_, JgHd.row_at 27⟩
    | 28, _ => exact ⟨_, JgHd.row_at 28⟩
    | 29, _ => exact ⟨_, JgHd.row_at 29⟩
    | 30, _ => exact ⟨_, JgHd.row_at 30⟩
    | 31, _ => exact ⟨_, JgHd.row_at 31⟩
    | 32, _ => exact ⟨_, JgHd.row_at 32⟩
    | 33, _ => exact ⟨_, JgHd.row_at 33⟩
    | 34, _ => exact ⟨_, JgHd.row_at 34⟩
    | 35, _ => exact ⟨_, JgHd.row_at 35⟩
    | 36, _ => exact ⟨_, JgHd.row_at 36⟩
    | i + 37, hi => exact absurd hi (by omega)
  have xaA : ∀ i, i < 37 → JgX.XA K (f (100 + 2 * i)) := by
    intro i hi
    match i, hi with
    | 0, _ => exact Xa0
    | 1, _ => exact Xa1
    | 2, _ => exact Xa2
    | 3, _ => exact Xa3
    | 4, _ => exact Xa4
    | 5, _ => exact Xa5
    | 6, _ => exact Xa6
    | 7, _ => exact Xa7
    | 8, _ => exact Xa8
    | 9, _ => exact Xa9
    | 10, _ => exact Xa10
    | 11, _ => exact Xa11
    | 12, _ => exact Xa12
    | 13, _ => exact Xa13
    | 14, _ => exact Xa14
    | 15, _ => exact Xa15
    | 16, _ => exact Xa16
    | 17, _ => exact Xa17
    | 18, _ => exact Xa18
    | 19, _ => exact Xa19
    | 20, _ => exact Xa20
    | 21, _ => exact Xa21
    | 22, _ => exact Xa22
    | 23, _ => exact Xa23
    | 24, _ => exact Xa24
    | 25, _ => exact Xa25
    | 26, _ => exact Xa26
    | 27, _ => exact Xa27
    | 28, _ => exact Xa28
    | 29, _ => exact Xa29
    | 30, _ => exact Xa30
    | 31, _ => exact Xa31
    | 32, _ => exact Xa32
    | 33, _ => exact Xa33
    | 34, _ => exact Xa34
    | 35, _ => exact Xa35
    | 36, _ => exact Xa36
    | i + 37, hi => exact absurd hi (by omega)
  have caA : ∀ i, i < 37 → cA K i = f (100 + 2 * i) := by
    intro i hi
    match i, hi with
    | 0, _ => exact cA_of rfl (JgHd.glo_in (JgHd.ba (fa_45 c)).1)
    | 1, _ => exact cA_of rfl (JgHd.glo_in (JgHd.ba (fa_46 c)).1)
    | 2, _ => exact cA_of rfl (JgHd.glo_in (JgHd.ba (fa_47 c)).1)
    | 3, _ => exact cA_of rfl (JgHd.glo_in (JgHd.ba (fa_48 c)).1)
    | 4, _ => exact cA_of rfl (JgHd.glo_in (JgHd.ba (fa_49 c)).1)
    | 5, _ => exact cA_of rfl (JgHd.glo_in (JgHd.ba (fa_50 c)).1)
    | 6, _ => exact cA_of rfl (JgHd.glo_in (JgHd.ba (fa_51 c)).1)
    | 7, _ => exact cA_of rfl (JgHd.glo_in (JgHd.ba (fa_52 c)).1)
    | 8, _ => exact cA_of rfl (JgHd.glo_in (JgHd.ba (fa_53 c)).1)
    | 9, _ => exact cA_of rfl (JgHd.glo_in (JgHd.ba (fa_54 c)).1)
    | 10, _ => exact cA_of rfl (JgHd.glo_in (JgHd.ba (fa_55 c)).1)
    | 11, _ => exact cA_of rfl (JgHd.glo_in (JgHd.ba (fa_56 c)).1)
    | 12, _ => exact cA_of rfl (JgHd.glo_in (JgHd.ba (fa_57 c)).1)
    | 13, _ => exact cA_of rfl (JgHd.glo_in (JgHd.ba (fa_58 c)).1)
    | 14, _ => exact cA_of rfl (JgHd.glo_in (JgHd.ba (fa_59 c)).1)
    | 15, _ => exact cA_of rfl (JgHd.glo_in (JgHd.ba (fa_60 c)).1)
    | 16, _ => exact cA_of rfl (JgHd.glo_in (JgHd.ba (fa_61 c)).1)
    | 17, _ => exact cA_of rfl (JgHd.glo_in (JgHd.ba (fa_62 c)).1)
    | 18, _ => exact cA_of rfl (JgHd.glo_in (JgHd.ba (fa_63 c)).1)
    | 19, _ => exact cA_of rfl (JgHd.glo_in (JgHd.ba (fa_64 c)).1)
    | 20, _ => exact cA_of rfl (JgHd.glo_in (JgHd.ba (fa_65 c)).1)
    | 21, _ => exact cA_of rfl (JgHd.glo_in (JgHd.ba (fa_66 c)).1)
    | 22, _ => exact cA_of rfl (JgHd.glo_in (JgHd.ba (fa_67 c)).1)
    | 23, _ => exact cA_of rfl (JgHd.glo_in (JgHd.ba (fa_68 c)).1)
    | 24, _ => exact cA_of rfl (JgHd.glo_in (JgHd.ba (fa_69 c)).1)
    | 25, _ => exact cA_of rfl (JgHd.glo_in (JgHd.ba (fa_70 c)).1)
    | 26, _ => exact cA_of rfl (JgHd.glo_in (JgHd.ba (fa_71 c)).1)
    | 27, _ => exact cA_of rfl (JgHd.glo_in (JgHd.ba (fa_72 c)).1)
    | 28, _ => exact cA_of rfl (JgHd.glo_in (JgHd.ba (fa_73 c)).1)
    | 29, _ => exact cA_of rfl (JgHd.glo_in (JgHd.ba (fa_74 c)).1)
    | 30, _ => exact cA_of rfl (JgHd.glo_in (JgHd.ba (fa_75 c)).1)
    | 31, _ => exact cA_of rfl (JgHd.glo_in (JgHd.ba (fa_76 c)).1)
    | 32, _ => exact cA_of rfl (JgHd.glo_in (JgHd.ba (fa_77 c)).1)
    | 33, _ => exact cA_of rfl (JgHd.glo_in (JgHd.ba (fa_78 c)).1)
    | 34, _ => exact cA_of rfl (xm34)
    | 35, _ => exact cA_of rfl (xm35)
    | 36, _ => exact cA_of rfl (xm36)
    | i + 37, hi => exact absurd hi (by omega)
  have T : Txt PR K mg f d := {
    F_law_cell := F0, m__law_cell := PySem.W.mg_of X G (JgHd.glo_in (fa_0 c)), k__law_cell := F0.kp, b__law_cell := b0,
    F_law_bag := F1, m__law_bag := PySem.W.mg_of X G (JgHd.glo_in (fa_2 c)), k__law_bag := F1.kp, b__law_bag := b1,
    F_law_take := F2, m__law_take := PySem.W.mg_of X G (JgHd.glo_in (fa_4 c)), k__law_take := F2.kp, b__law_take := b2,
    F_law_marks_first := F3, m__law_marks_first := PySem.W.mg_of X G (JgHd.glo_in (fa_6 c)), k__law_marks_first := F3.kp, b__law_marks_first := b3,
    F_law_marks_last := F4, m__law_marks_last := PySem.W.mg_of X G (JgHd.glo_in (fa_8 c)), k__law_marks_last := F4.kp, b__law_marks_last := b4,
    F_law_families := F5, m__law_families := PySem.W.mg_of X G (JgHd.glo_in (fa_10 c)), k__law_families := F5.kp, b__law_families := b5,
    F_law_family_of := F6, m__law_family_of := PySem.W.mg_of X G (JgHd.glo_in (fa_12 c)), k__law_family_of := F6.kp, b__law_family_of := b6,
    F_law_made_first := F7, m__law_made_first := PySem.W.mg_of X G (JgHd.glo_in (fa_14 c)), k__law_made_first := F7.kp, b__law_made_first := b7,
    F_law_made_last := F8, m__law_made_last := PySem.W.mg_of X G (JgHd.glo_in (fa_16 c)), k__law_made_last := F8.kp, b__law_made_last := b8,
    F_law_any := F9, m__law_any := PySem.W.mg_of X G (JgHd.glo_in (fa_18 c)), k__law_any := F9.kp, b__law_any := b9,
    F_law_very := F10, m__law_very := PySem.W.mg_of X G (JgHd.glo_in (fa_20 c)), k__law_very := F10.kp, b__law_very := b10,
    F_law_fields_right := F11, m__law_fields_right := PySem.W.mg_of X G (JgHd.glo_in (fa_22 c)), k__law_fields_right := F11.kp, b__law_fields_right := b11,
    F_law_taken := F12, m__law_taken := PySem.W.mg_of X G (JgHd.glo_in (fa_24 c)), k__law_taken := F12.kp, b__law_taken := b12,
    F_law_by_name_right := F13, m__law_by_name_right := PySem.W.mg_of X G (JgHd.glo_in (fa_26 c)), k__law_by_name_right := F13.kp, b__law_by_name_right := b13,
    F_law_right := F14, m__law_right := PySem.W.mg_of X G (JgHd.glo_in (fa_28 c)), k__law_right := F14.kp, b__law_right := b14,
    F_law := F15, m_law := PySem.W.mg_of X G (JgHd.glo_in (fa_30 c)), k_law := F15.kp, b_law := b15,
    z_KeyError := PySem.W.mg_none_of X G (JgHd.free_in (fa_32 c)),
    z_LookupError := PySem.W.mg_none_of X G (JgHd.free_in (fa_33 c)),
    z_ValueError := PySem.W.mg_none_of X G (JgHd.free_in (fa_34 c)),
    z_enumerate := PySem.W.mg_none_of X G (JgHd.free_in (fa_35 c)),
    z_isinstance := PySem.W.mg_none_of X G (JgHd.free_in (fa_36 c)),
    z_len := PySem.W.mg_none_of X G (JgHd.free_in (fa_37 c)),
    z_list := PySem.W.mg_none_of X G (JgHd.free_in (fa_38 c)),
    z_max := PySem.W.mg_none_of X G (JgHd.free_in (fa_39 c)),
    z_min := PySem.W.mg_none_of X G (JgHd.free_in (fa_40 c)),
    z_range := PySem.W.mg_none_of X G (JgHd.free_in (fa_41 c)),
    z_repr := PySem.W.mg_none_of X G (JgHd.free_in (fa_42 c)),
    nb := JgHd.is_ok (fa_43 c),
    q_NoName := Xq0,
    q_NoWords := Xq1,
    q_NoSigns := Xq2,
    q_NoSign := Xq3,
    q_NoWord := Xq4,
    q_Beyond := Xq5,
    q_Unended := Xq6,
    q_NoTerm := Xq7,
    q_NoTerms := Xq8,
    q_NoLetter := Xq9,
    q_NoPairs := Xq10,
    q_NoPutting := Xq11,
    q_NoWay := Xq12,
    q_NoNumber := Xq13,
    q_NoTruth := Xq14,
    q_NoNote := Xq15,
    q_NoList := Xq16,
    q_NoAsk := Xq17,
    q_NoRule := Xq18,
    q_NoRules := Xq19,
    q_NoRow := Xq20,
    q_NoShelf := Xq21,
    q_NoDeed := Xq22,
    q_NoText := Xq23,
    q_NoLine := Xq24,
    q_Unlike := Xq25,
    q_Twice := Xq26,
    q_TooMany := Xq27,
    q_TooGreat := Xq28,
    q_NotThere := Xq29,
    q_NoSpot := Xq30,
    q_NoMore := Xq31,
    q_Changed := Xq32,
    q_Endless := Xq33,
    p_TermError := xp34, c_TermError := PySem.W.mg_of X G xm34, u_TermError := Xa34, t_TermError := xt34,
    p_Absent := xp35, c_Absent := PySem.W.mg_of X G xm35, u_Absent := Xa35, t_Absent := xt35,
    p_Ended := xp36, c_Ended := PySem.W.mg_of X G xm36, u_Ended := Xa36, t_Ended := xt36,
    z_super := PySem.W.mg_none_of X G (JgHd.free_in (fa_83 c)), opq := JgHd.is_ok (fa_82 c), tp := by decide +kernel,
    ca := caA,
    xa := xaA,
    kit := kit_own cls xkin row,
    kfm := kit_fam cls xkin row,
    ktV := kit_ty cls (by decide +kernel) xtV row,
    ktK := kit_ty cls (by decide +kernel) xtK row,
    ktL := kit_ty cls (by decide +kernel) xtL row,
    exm := exm_fam cls xkin row xaA }
  refine ⟨f, d, T, T.m_law, ?_⟩
  obtain ⟨oc, od, kV, doc, pm, an, cdv, ct, osl, z, _⟩ := F15.ex
  show ∀ (s : Shared) (v : Value), BindsTo s d15 ⟨[v], []⟩ [("_law_script", v)]
  rw [z]
  exact fun s v => .of_eq rfl
end K03
open PySem PySem.W PyProof.Rows
set_option maxRecDepth 100000 in
set_option maxHeartbeats 0 in
theorem PySem.Challenge.cw_termshelf_k03_refusals_apart_holds : PySem.Challenge.rw_termshelf_k03_refusals_apart.Holds := by
  w_on; o_law
  refine HandSHeadRun.head_any (r := OpenLaw.row PySem.Challenge.rw_termshelf_k03_refusals_apart) (q := view (OpenLaw.row PySem.Challenge.rw_termshelf_k03_refusals_apart).prog [54]) (H := K03.hk) (ob := K03.ob) (M := 40000) (loose := K03.names) (d := HandSHeadRun.topDef (OpenLaw.row PySem.Challenge.rw_termshelf_k03_refusals_apart).prog 54) (kwd := []) K03.ob_eq
    (by kernel_rfl) (fun s => by kernel_rfl) K03.run (by kernel_rfl) (by kernel_rfl) (by kernel_rfl) (by rfl) (by first | assumption | decide +kernel) (by decide +kernel) ⟨rfl, rfl, rfl, rfl, rfl, by decide +kernel⟩ ?hw ?hc
  case hw => w_witness2
  case hc =>
    refine Jg.walkH (l := PySem.Challenge.rw_termshelf_k03_refusals_apart) (n := 63) (k := 5) (x := "_law_script") (sp := K03.sp_law) rfl (by decide) (by kernel_rfl) ⟨rfl, by decide, by decide⟩ ?F (fun K H a ns hl _ hS => ⟨a, ns, rfl, hS, hl, fun _ => rfl⟩)
    intro w mg fa h Y G hmg0
    obtain ⟨K, KX, c⟩ := Y
    have hmg : mg ("law" : PySem.Str) = some (.ref fa) := by
      have e : (HandSHeadRun.topDef (OpenLaw.row PySem.Challenge.rw_termshelf_k03_refusals_apart).prog 54).name = ("law" : PySem.Str) := by kernel_rfl
      rw [← e]
      exact hmg0
    obtain ⟨f, d, T, e, hb⟩ := K03.txt_of KX G c
    rw [hmg] at e
    cases e
    exact ⟨K, d 15, KX, hb, fun base _ _ => K03.ok_law T⟩
