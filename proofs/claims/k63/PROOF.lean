import PyProof.Rows.All
import Wide.All
import OpenK.AllK
import Wide.FinOn
import HandS.ForMost
import HandS.ForExc
import HandS.Wide
import HandS.IsInst
import HandS.Flow
import PyProof.StrBlock2
import HandS.Defaults
import HandS.Head0
import HandS.Head1
import HandS.Head2
import HandS.HeadEnd
import HandS.HeadHook1
import HandS.HeadHook2
import HandS.TryMany
import KE.DataEq
import HandS.Style
import HandS.Zip
import HandS.Strs
import HandS.SetFor
import HandS.SortInts
import HandS.Conv
import HandS.ListItems
import KE.KDictZip
import KE.KTurns
import HandS.SortKw
import KE.DataMinMax
import HandS.DictTup
import HandS.Deep
import HandS.TupAny
import HandS.Dict
import HandS.DictComp
import PyProof.DictUpdate
import HandS.Exc
import HandS.ExcField
import HandS.ExcInit
import HandS.Text
import HandS.Star
import HandS.Lambda
import HandS.EndTab
import HandS.HeadHook4
import HandS.ExcIs
import KE.DataMinKey
import HandS.SetBool
import KE.KDictList
import KE.DataFind
import HandS.SuiteRaise
import HandS.RaiseFrom
import HandS.ExcInitHot
import PySem.Challenge.RW_kimariji_k63_books_refused_at_a_hall
set_option Elab.async false
set_option linter.all false
set_option maxRecDepth 100000
set_option maxHeartbeats 0
namespace HandSHeadRun
open PySem PySem.W PySem.Calls PyProof.Rows
theorem Gm {α β γ δ : Type} {m : Option α} {f : α → β} {g : α → γ} {h : α → δ} {a : β} {b : γ} {c : δ} (h1 : m.map f = some a) (h2 : m.map g = some b) (h3 : m.map h = some c) : m.map (fun s => (f s, g s, h s)) = some (a, b, c) := by
  cases m with
  | none => cases h1
  | some x => cases h1; cases h2; cases h3; rfl
def EndA (r : OpenRow) (M : Nat) (w : World) : Prop := ∀ os : OsState, (endF (stepQ (denQ tabQ) r.prog w) M r.prog w os).map (fun s => looksF r.prog (boot_heap w.params) s.abs) = some true
def EndB (r : OpenRow) (q : Program) (M : Nat) (loose : List PySem.Str) (w : World) : Prop := ∀ os : OsState, (endF (stepQ (denQ tabQ) r.prog w) M r.prog w os).map (fun s => seenQ q loose (importedModules r.prog.main.body) (fun s => xlAt q [] s && recOk r.toRowW.records s) s.abs) = some (openGood q loose)
def EndC (r : OpenRow) (H : Hook) (ob : SharedT → H.α) (M : Nat) (w : World) : Prop := ∀ os : OsState, (endF (stepQ (denQ tabQ) r.prog w) M r.prog w os).map ob = some (H.val w)
theorem run_of {r : OpenRow} {q : Program} {H : Hook} {ob : SharedT → H.α} {M : Nat} {loose : List PySem.Str} {w : World} (h1 : EndA r M w) (h2 : EndB r q M loose w) (h3 : EndC r H ob M w) : RunEq r q H ob M loose w := fun os => Gm (h1 os) (h2 os) (h3 os)
end HandSHeadRun
namespace He
open PySem PySem.Spec PyProof.Rows L2
def Fh (n : Nat) (fa : List Fa) (fn : List DefD) (ex : PySem.W.Frag → Bool) (g : Addr → Option Obj) : AlD × Bool := (obsD fa fn (frG g (asD g n)), ex (frG g (asD g n)))
def Hm (n : Nat) (fa : List Fa) (fn : List DefD) (ex : PySem.W.Frag → Bool) : PySem.W.Hook where
  α := AlD × Bool
  obs := fun s => Fh n fa fn ex s.heap.get?
  val := fun _ => (valD fn, true)
  says := fun _ h => ∃ K : PySem.W.Frag, K.In h ∧ (SaysD fa fn K ∧ ex K = true)
  of := fun _ _ e => ⟨_, frG_in, congrArg (fun z : AlD × Bool => z.1) e, congrArg (fun z : AlD × Bool => z.2) e⟩
  keeps := fun _ _ _ ⟨K, hK, c⟩ k => ⟨K, PySem.W.Frag.In.keeps hK k, c⟩
def Gt (g : Addr → Option Obj) (a : Addr) : List Addr := a :: match g a with
  | some o => (match o.data with
    | .func fd => refV fd.code
    | _ => [])
  | none => []
def BQ (g : Addr → Option Obj) (d : Addr) : List Addr := match g d with
  | some o => (match o.data with
    | .dict es _ => es.toList.flatMap fun e => refV e.val
    | _ => [])
  | none => []
def Gu (g : Addr → Option Obj) (a : Addr) : List Addr := a :: match g a with
  | some o => (match o.data with
    | .func fd => refV fd.code
    | .cls cd => cd.ns :: (BQ g cd.ns).flatMap (Gt g)
    | _ => [])
  | none => []
def asL (g : Addr → Option Obj) : List Addr := mainGlobals :: (BQ g mainGlobals).flatMap (Gu g)
def Fg (fa : List Fa) (fn : List DefD) (g : Addr → Option Obj) : AlD := obsD fa fn (frG g (asL g))
def Hl (fa : List Fa) (fn : List DefD) : PySem.W.Hook where
  α := AlD
  obs := fun s => Fg fa fn s.heap.get?
  val := fun _ => valD fn
  says := fun _ h => ∃ K : PySem.W.Frag, K.In h ∧ SaysD fa fn K
  of := fun _ _ e => ⟨_, frG_in, e⟩
  keeps := fun _ _ _ ⟨K, hK, c⟩ k => ⟨K, PySem.W.Frag.In.keeps hK k, c⟩
def obsLB (fa : List Fa) (fn : List DefD) (ex : PySem.W.Frag → Bool) (g : Addr → Option Obj) : AlD × Bool := (obsD fa fn (frG g (asL g)), ex (frG g (asL g)))
def hookLB (fa : List Fa) (fn : List DefD) (ex : PySem.W.Frag → Bool) : PySem.W.Hook where
  α := AlD × Bool
  obs := fun s => obsLB fa fn ex s.heap.get?
  val := fun _ => (valD fn, true)
  says := fun _ h => ∃ K : PySem.W.Frag, K.In h ∧ (SaysD fa fn K ∧ ex K = true)
  of := fun _ _ e => ⟨_, frG_in, congrArg (fun z : AlD × Bool => z.1) e, congrArg (fun z : AlD × Bool => z.2) e⟩
  keeps := fun _ _ _ ⟨K, hK, c⟩ k => ⟨K, PySem.W.Frag.In.keeps hK k, c⟩
theorem obsLB_eq {fa : List Fa} {fn : List DefD} {ex : PySem.W.Frag → Bool} {g : Addr → Option Obj} {s : Shared} (h : ∀ a, g a = s.heap.get? a) : obsLB fa fn ex g = (hookLB fa fn ex).obs s := by
  have e : g = s.heap.get? := funext h
  rw [e] <;> rfl
def B0 (fa : List Fa) (fn : List DefD) (tf : List Defn) (ex : PySem.W.Frag → Bool) (g : Addr → Option Obj) : AlD × Bool := (obsD fa fn (frT g (asL g)), ex (frT g (asL g)) && tabsB g tf (frT g (asL g)))
structure SaysLT (fa : List Fa) (fn : List DefD) (tf : List Defn) (ex : PySem.W.Frag → Bool) (h : Heap) (K : PySem.W.Frag) : Prop where
  d : SaysD fa fn K
  more : ex K = true
  hd : ∀ p ∈ tf, PySem.W.codeHdIn K (cT K p).1 (cT K p).2 = true
  out : ∀ p ∈ tf, K.lookup (cT K p).2 = none
  empty : ∀ p ∈ tf, h.get? (cT K p).2 = some { cls := .none, data := .fields #[] }
theorem wt {fa : List Fa} {fn : List DefD} {tf : List Defn} {ex : PySem.W.Frag → Bool} {h : Heap} (e : B0 fa fn tf ex h.get? = (valD fn, true)) : SaysLT fa fn tf ex h (frT h.get? (asL h.get?)) := by
  have e1 : obsD fa fn (frT h.get? (asL h.get?)) = valD fn := congrArg (fun z : AlD × Bool => z.1) e
  have e2 : (ex (frT h.get? (asL h.get?)) && tabsB h.get? tf (frT h.get? (asL h.get?))) = true := congrArg (fun z : AlD × Bool => z.2) e
  obtain ⟨h1, h2⟩ := Bool.and_eq_true_iff.mp e2
  have key : ∀ p ∈ tf, PySem.W.codeHdIn (frT h.get? (asL h.get?)) (cT (frT h.get? (asL h.get?)) p).1 (cT (frT h.get? (asL h.get?)) p).2 = true ∧ ∃ o, h.get? (cT (frT h.get? (asL h.get?)) p).2 = some o ∧ emptyTab o = true := fun p hp => by
    obtain ⟨h3, h4⟩ := Bool.and_eq_true_iff.mp (List.all_eq_true.mp h2 p hp)
    refine ⟨h3, ?_⟩
    cases q : h.get? (cT (frT h.get? (asL h.get?)) p).2 with
    | none =>
      rw [q] at h4
      cases h4
    | some o =>
      rw [q] at h4
      exact ⟨o, rfl, h4⟩
  exact ⟨e1, h1, fun p hp => (key p hp).1, fun p hp => by
    obtain ⟨_, o, q, z⟩ := key p hp
    exact frT_none q z, fun p hp => by
    obtain ⟨_, o, q, z⟩ := key p hp
    rw [q, emptyTab_eq z]⟩
def GL (fa : List Fa) (fn : List DefD) (tf : List Defn) (ex : PySem.W.Frag → Bool) : PySem.W.Hook where
  α := AlD × Bool
  obs := fun s => B0 fa fn tf ex s.heap.get?
  val := fun _ => (valD fn, true)
  says := fun _ h => ∃ K : PySem.W.Frag, K.In h ∧ SaysLT fa fn tf ex h K
  of := fun _ _ e => ⟨_, frT_in, wt e⟩
  keeps := fun _ _ _ ⟨K, hK, c⟩ k => ⟨K, PySem.W.Frag.In.keeps hK k, ⟨c.d, c.more, c.hd, c.out, fun p hp => k _ _ (c.empty p hp)⟩⟩
end He
namespace Kj
open PySem PySem.Spec PyProof.Rows L2
def iG (n c : Str) : Bool := decide (n = c) || decide (c = "SnatchError")
def yL (K : PySem.W.Frag) (l lc : List Str) : Bool := l.all fun n => lc.all fun c => decide (PySem.W.exmOne K (.ref (He.ga K n)) (.ref (He.ga K c)) = some (iG n c))
def Ae (K : PySem.W.Frag) (C : Addr) (fs : List Str) : Bool :=
  (match List.lookup C K with
  | some { cls := Value.type "type", dict := _, data := Data.cls cd, slots := sl } =>
    match cd.mro, sl.toList with
    | Value.ref C' :: bm, [_, _, _, _, some (Value.builtin n), _] => C' == C && n == "ValueError.__new__" && cd.hasDict && !cd.hasDel && PySem.HandSPX.refsVE bm
    | _, _ => false
  | _ => false) &&
  (decide (PySem.W.findIn K (.ref C) "__setattr__" = some (some (.builtin "object.__setattr__"))) &&
  (decide (PySem.W.typeIn K (.ref C) = some (.type "type")) && (PySem.W.keepIn K (.ref C) && (xfB K C &&
  (decide (PySem.W.findIn K (.ref C) "__init__" = some (some (.ref (He.ma K C "__init__")))) &&
  (decide (PySem.W.typeIn K (.ref (He.ma K C "__init__")) = some (.type "function")) && fs.all fun f => decide (PySem.W.findIn K (.ref C) f = some none)))))))
abbrev Tb := List (Addr × Str)
def FD (K : PySem.W.Frag) (D : Addr) : Bool :=
  decide (PySem.W.findIn K (.ref D) "__getattribute__" = some (some (.builtin "BaseException.__getattribute__"))) && (decide (PySem.W.findIn K (.ref D) "__getattr__" = some none) && (decide (PySem.W.subIn K (.ref D) (.type "BaseException") = some true) && (PySem.W.hasDictIn K D && (decide (PySem.W.findIn K (.ref D) "__class__" = some (some (.builtin "object.__class__"))) &&
    (decide (PySem.W.specialIn K (.builtin "object.__class__") "__get__" = some (some (.builtin "getset_descriptor.__get__"))) && (decide (PySem.W.takesIn K (.builtin "object.__class__") = some true) && decide (PySem.W.mroIn K D (.type "object") = some true)))))))
def Is (K : PySem.W.Frag) (lx lm : List Str) : Bool := lx.all fun x => FD K (He.ga K x) && lm.all fun c => decide (PySem.W.kitOne K (.ref (He.ga K x)) (.ref (He.ga K c)) = some (decide (x = c)))
abbrev lxn : List Str := ["Alike", "BadBook", "BadVerse"]
abbrev lxc : List Str := ["Alike", "BadBook", "BadVerse", "SnatchError"]
def fy (i : Nat) : Stmt := PySem.Challenge.pw_kimariji_k63_books_refused_at_a_hall.main.body.getD i (.Pass ⟨0, 0, 0, 0⟩)
abbrev fJ : Stmt := fy 37
abbrev f7 : Stmt := fy 38
abbrev f6 : Stmt := fy 39
abbrev gC : Stmt := fy 40
abbrev gQ : Stmt := fy 41
abbrev fZ : Stmt := fy 42
abbrev ib : Stmt := fy 43
abbrev gF : Stmt := fy 44
abbrev gE : Stmt := fy 45
abbrev eS : Stmt := fy 20
abbrev gH : Stmt := fy 19
abbrev jB : Stmt := fy 21
abbrev dv : Stmt := inClass (fy 4) 0
abbrev d6 : Stmt := inClass (fy 5) 0
abbrev d9 : Stmt := fy 18
abbrev c9 : Stmt := inClass (fy 17) 0
abbrev gT : Stmt := inClass (fy 17) 1
abbrev fK : Stmt := fy 22
abbrev gi : Stmt := inClass (fy 17) 2
abbrev eU : Stmt := inClass (fy 17) 3
abbrev ic : Stmt := fy 30
abbrev gR : Stmt := fy 31
abbrev gg : Stmt := fy 32
abbrev fY : Stmt := fy 34
abbrev gB : Stmt := fy 35
abbrev ia : Stmt := fy 27
abbrev m_ : Stmt := fy 28
abbrev eF : Stmt := inClass (fy 26) 0
abbrev eT : Stmt := inClass (fy 26) 1
abbrev gw : Stmt := eT
abbrev gh : Stmt := inClass (fy 26) 16
abbrev fA : Stmt := inClass (fy 26) 15
abbrev gS : Stmt := inClass (fy 26) 18
abbrev dN : Stmt := fy 46
abbrev eR : Stmt := fy 47
abbrev fg : Stmt := fy 48
abbrev dl : Stmt := fy 49
abbrev gD : Stmt := fy 50
abbrev eE : Stmt := fy 51
abbrev sS : Stmt := fy 52
def lr : He.DefD := ⟨("_law_numbers", none), "_law_numbers", "_law_numbers", defArgs fJ, defBody fJ, defScope fJ, [], []⟩
def p4 : He.DefD := ⟨("_law_same", none), "_law_same", "_law_same", defArgs f7, defBody f7, defScope f7, [], []⟩
def nU : He.DefD := ⟨("_law_sound", none), "_law_sound", "_law_sound", defArgs f6, defBody f6, defScope f6, [], []⟩
def p5 : He.DefD := ⟨("_law_pool", none), "_law_pool", "_law_pool", defArgs gC, defBody gC, defScope gC, [], []⟩
def nV : He.DefD := ⟨("_law_alike", none), "_law_alike", "_law_alike", defArgs gQ, defBody gQ, defScope gQ, [], []⟩
def nT : He.DefD := ⟨("_law_verse", none), "_law_verse", "_law_verse", defArgs fZ, defBody fZ, defScope fZ, [], []⟩
def pZ : He.DefD := ⟨("_law_wide", none), "_law_wide", "_law_wide", defArgs ib, defBody ib, defScope ib, [], []⟩
def p8 : He.DefD := ⟨("_law_book", none), "_law_book", "_law_book", defArgs gF, defBody gF, defScope gF, [], []⟩
def p7 : He.DefD := ⟨("_law_copy", none), "_law_copy", "_law_copy", defArgs gE, defBody gE, defScope gE, [], []⟩
def lv : He.DefD := ⟨("is_syllable", none), "is_syllable", "is_syllable", defArgs eS, defBody eS, defScope eS, [], []⟩
def p9 : He.DefD := ⟨("is_verse", none), "is_verse", "is_verse", defArgs gH, defBody gH, defScope gH, [], []⟩
def t3 : He.DefD := ⟨("begins", none), "begins", "begins", defArgs jB, defBody jB, defScope jB, [], []⟩
def iH : He.DefD := ⟨("BadVerse", some "__init__"), "__init__", "BadVerse.__init__", defArgs dv, defBody dv, defScope dv, [], []⟩
def jM : He.DefD := ⟨("Alike", some "__init__"), "__init__", "Alike.__init__", defArgs d6, defBody d6, defScope d6, [], []⟩
def kT : He.DefD := ⟨("check_rows", none), "check_rows", "check_rows", defArgs d9, defBody d9, defScope d9, [], []⟩
def jn : He.DefD := ⟨("Book", some "__init__"), "__init__", "Book.__init__", defArgs c9, defBody c9, defScope c9, [], []⟩
def nY : He.DefD := ⟨("Book", some "many"), "many", "Book.many", defArgs gT, defBody gT, defScope gT, [], []⟩
def lw : He.DefD := ⟨("check_verse", none), "check_verse", "check_verse", defArgs fK, defBody fK, defScope fK, [], []⟩
def mT : He.DefD := ⟨("Book", some "verse"), "verse", "Book.verse", defArgs gi, defBody gi, defScope gi, [], []⟩
def lz : He.DefD := ⟨("Book", some "verses"), "verses", "Book.verses", defArgs eU, defBody eU, defScope eU, [], []⟩
def ra : He.DefD := ⟨("is_name", none), "is_name", "is_name", defArgs ic, defBody ic, defScope ic, [], []⟩
def nW : He.DefD := ⟨("check_new", none), "check_new", "check_new", defArgs gR, defBody gR, defScope gR, [], []⟩
def mQ : He.DefD := ⟨("book_named", none), "book_named", "book_named", defArgs gg, defBody gg, defScope gg, [], []⟩
def nS : He.DefD := ⟨("new_lists", none), "new_lists", "new_lists", defArgs fY, defBody fY, defScope fY, [], []⟩
def pY : He.DefD := ⟨("new_deed", none), "new_deed", "new_deed", defArgs gB, defBody gB, defScope gB, [], []⟩
def pX : He.DefD := ⟨("standing", none), "standing", "standing", defArgs ia, defBody ia, defScope ia, [], []⟩
def zA : He.DefD := ⟨("note", none), "note", "note", defArgs m_, defBody m_, defScope m_, [], []⟩
def kd : He.DefD := ⟨("Hall", some "__init__"), "__init__", "Hall.__init__", defArgs eF, defBody eF, defScope eF, [], []⟩
def ly : He.DefD := ⟨("Hall", some "shelve"), "shelve", "Hall.shelve", defArgs eT, defBody eT, defScope eT, [], []⟩
def mS : He.DefD := ⟨("Hall", some "books"), "books", "Hall.books", defArgs gh, defBody gh, defScope gh, [], []⟩
def mR : He.DefD := ⟨("Hall", some "deeds"), "deeds", "Hall.deeds", defArgs fA, defBody fA, defScope fA, [], []⟩
def nX : He.DefD := ⟨("Hall", some "book"), "book", "Hall.book", defArgs gS, defBody gS, defScope gS, [], []⟩
def kc : He.DefD := ⟨("_law_book_told", none), "_law_book_told", "_law_book_told", defArgs dN, defBody dN, defScope dN, [], []⟩
def lu : He.DefD := ⟨("_law_is_line", none), "_law_is_line", "_law_is_line", defArgs eR, defBody eR, defScope eR, [], []⟩
def kR : He.DefD := ⟨("_law_book_bad", none), "_law_book_bad", "_law_book_bad", defArgs fg, defBody fg, defScope fg, [], []⟩
def jm : He.DefD := ⟨("_law_spoilt_book", none), "_law_spoilt_book", "_law_spoilt_book", defArgs dl, defBody dl, defScope dl, [], []⟩
def p6 : He.DefD := ⟨("_law_name", none), "_law_name", "_law_name", defArgs gD, defBody gD, defScope gD, [], []⟩
def j_ : He.DefD := ⟨("_law_why_shelf", none), "_law_why_shelf", "_law_why_shelf", defArgs eE, defBody eE, defScope eE, [], []⟩
def Ck : He.DefD := ⟨("law", none), "law", "law", defArgs sS, defBody sS, defScope sS, [], []⟩
def fn : List He.DefD := [lr, p4, nU, p5, nV, nT, pZ, p8, p7, lv, p9, t3, iH, jM, kT, jn, nY, lw, mT, lz, ra, nW, mQ, nS, pY, pX, zA, kd, ly, mS, mR, nX, kc, lu, kR, jm, p6, j_, Ck]
def fa : List He.Fa := [.glo "Alike", .glo "BadBook", .glo "BadVerse", .glo "SnatchError", .exc "BadBook", .glo "_law_numbers", .glo "_law_same", .glo "_law_sound", .glo "_law_pool", .glo "_law_alike", .glo "_law_verse", .glo "_law_wide", .glo "_law_book", .glo "_law_copy", .glo "is_syllable", .glo "is_verse", .glo "begins", .glo "check_rows", .glo "check_verse", .glo "is_name", .glo "check_new", .glo "book_named", .glo "new_lists", .glo "new_deed", .glo "standing", .glo "note", .glo "_law_book_told", .glo "_law_is_line", .glo "_law_book_bad", .glo "_law_spoilt_book", .glo "_law_name", .glo "_law_why_shelf", .glo "law", .glo "Alike", .glo "BadVerse", .glo "Book", .glo "Hall", .free "all", .free "bool", .free "enumerate", .free "int", .free "isinstance", .free "len", .free "list", .free "max", .free "min", .free "range", .free "str", .free "tuple", .free "zip", .int "MOST_LETTERS_books" 3, .int "MOST_LETTERS_hall" 8, .int "MOST_NAMES" 8, .int "MOST_SYLLABLES" 8, .int "MOST_VERSES" 40, .cls "Book", .cls "Hall", .noat "Book" "lines", .noat "Hall" "done", .noat "Hall" "log", .noat "Hall" "stands", .meth "Book" "many", .meth "Book" "verse", .meth "Book" "verses", .meth "Hall" "shelve", .meth "Hall" "books", .meth "Hall" "deeds", .meth "Hall" "book", .mkr "Book", .mkr "Hall"]
abbrev RR : PySem.W.OpenRow := PySem.W.OpenLaw.row PySem.Challenge.rw_kimariji_k63_books_refused_at_a_hall
def exK (K : PySem.W.Frag) : Bool := (yL K lxn lxc && (Ae K (He.ga K "Alike") ["one", "other"] && Ae K (He.ga K "BadVerse") ["row"]))
abbrev hk : PySem.W.Hook := He.hookLB fa fn exK
def ob (s : PySem.W.SharedT) : He.AlD × Bool := He.obsLB fa fn exK (HandSHeadRun.getT s)
theorem ob_eq (s : PySem.W.SharedT) : ob s = hk.obs s.abs := He.obsLB_eq (HandSHeadRun.getT_eq s)
abbrev loo : List PySem.Str := ("SnatchError" :: "BadBook" :: "BadVerse" :: "Alike" :: "NoVerse" :: "Full" :: "BadName" :: "Taken" :: "NoBook" :: "NoTable" :: "NothingLeft" :: "Book" :: "Hall" :: "_wall" :: "check_rows" :: "is_verse" :: "is_syllable" :: "begins" :: "check_verse" :: "standing" :: "note" :: "play" :: "is_name" :: "check_new" :: "book_named" :: "table_named" :: "new_lists" :: "new_deed" :: ["_law_numbers", "_law_same", "_law_sound", "_law_pool", "_law_alike", "_law_verse", "_law_wide", "_law_book", "_law_copy", "_law_book_told", "_law_is_line", "_law_book_bad", "_law_spoilt_book", "_law_name", "_law_why_shelf", "MOST_VERSES", "MOST_SYLLABLES", "MOST_LETTERS_books", "MOST_LETTERS_hall", "MOST_NAMES"] : List PySem.Str)
theorem Gk (w : World) : HandSHeadRun.EndA RR 12000 w := by
  intro os
  kernel_rfl
theorem Gj (w : World) : HandSHeadRun.EndB RR (PySem.W.view RR.prog [52]) 12000 loo w := by
  intro os
  kernel_rfl
theorem Gi (w : World) : HandSHeadRun.EndC RR hk ob 12000 w := by
  intro os
  kernel_rfl
theorem run (w : World) : HandSHeadRun.RunEq RR (PySem.W.view RR.prog [52]) hk ob 12000 loo w := HandSHeadRun.run_of (Gk w) (Gj w) (Gi w)
end Kj
namespace Kj
open PySem L2
def mns (H H0 : Hp) : Hp := fun a => match H0 a with | none => H a | some _ => none
theorem bu {H H0 : Hp} {a : Addr} {o : HO} : mns H H0 a = some o ↔ H0 a = none ∧ H a = some o := by
  unfold mns; cases h : H0 a <;> simp
theorem dI {H H' : Hp} (H0 : Hp) (s : Same H H') : Same (mns H H0) (mns H' H0) := fun a o h => by
  rw [bu] at h ⊢; exact ⟨h.1, s _ _ h.2⟩
theorem jg {H H0 : Hp} : Same (mns H H0) H := fun a o h => (bu.mp h).2
theorem l4 {K : PySem.W.Frag} {H H' : Hp} {a : Addr} {xs : List V} (e : Same H H') (h : SqT K H a xs) : SqT K H' a xs := by
  rcases h with (h | ⟨o, h⟩) | h
  · exact .inl (.inl (e _ _ h))
  · exact .inl (.inr ⟨o, e _ _ h⟩)
  · exact .inr h
mutual
theorem dE {K : PySem.W.Frag} {H H' : Hp} (s : Same H H') : ∀ (d : PyData) (v : V), Dp K H v d → Dp K H' v d
  | .none, _, h => by cases h; exact .non
  | .bool b, _, h => by cases h; exact .bl b
  | .int i, _, h => by cases h; exact .int i
  | .str x, _, h => by cases h; exact .str x
  | .list ds, _, h => by
    cases h with
    | lst hs ha => exact .lst (s.seq hs) (dpa_mono s ds _ ha)
  | .tuple ds, _, h => by
    cases h with
    | tup hs ha => exact .tup (l4 s hs) (dpa_mono s ds _ ha)
  | .dict _, _, h => by cases h
theorem dpa_mono {K : PySem.W.Frag} {H H' : Hp} (s : Same H H') : ∀ (ds : List PyData) (vs : List V), DpAll K H vs ds → DpAll K H' vs ds
  | [], _, h => by cases h; exact .nil
  | d :: ds, _, h => by
    cases h with
    | cons h1 h2 => exact .cons (dE s d _ h1) (dpa_mono s ds _ h2)
end
structure Abs where
  p : V → Hp → Prop
  mono : ∀ (v : V) (H H' : Hp), Same H H' → p v H → p v H'
structure AbsO where
  p : Addr → HO → Hp → Prop
  mono : ∀ (a : Addr) (o : HO) (H H' : Hp), Same H H' → p a o H → p a o H'
inductive Slot where
  | no
  | dat (A : Abs)
  | new (A : Abs)
  | own (B : AbsO)
  | reg (A : Abs)
def aD (K : PySem.W.Frag) (d : PyData) : Abs := ⟨fun v H => Dp K H v d, fun v _ _ s h => dE s d v h⟩
def hp (f : Bool) (Hr H0 : Hp) : Hp := match f with | true => mns Hr H0 | false => Hr
def sl : Bool → Abs → Slot
  | true, A => .new A
  | false, A => .dat A
theorem cK (f : Bool) {H H' : Hp} (H0 : Hp) (s : Same H H') : Same (hp f H H0) (hp f H' H0) := by
  cases f
  · exact s
  · exact dI H0 s
theorem bD (f : Bool) {H H0 : Hp} : Same (hp f H H0) H := by
  cases f
  · exact Same.refl _
  · exact jg
def im (H0 H Hr : Hp) (σ : St) (i : Nat) : Slot → Prop
  | .no => True
  | .dat A => ∃ v, σ[i]? = some (some v) ∧ A.p v Hr
  | .new A => ∃ v, σ[i]? = some (some v) ∧ A.p v (mns Hr H0)
  | .own B => ∃ p o, σ[i]? = some (some (.ref p)) ∧ H0 p = none ∧ Hr p = none ∧ H p = some o ∧ B.p p o (mns Hr H0)
  | .reg _ => True
def jN (H0 H Hr : Hp) (σ : St) (ρ : List Slot) : Prop := ∃ Gs : Nat → Hp,
  (∀ (i : Nat) (A : Abs), ρ[i]? = some (Slot.reg A) → (∃ v, σ[i]? = some (some v) ∧ A.p v (Gs i)) ∧ ∀ (a : Addr) (o : HO), Gs i a = some o → H a = some o ∧ Hr a = none ∧ H0 a = none) ∧
  (∀ (i j : Nat) (A A' : Abs), i ≠ j → ρ[i]? = some (Slot.reg A) → ρ[j]? = some (Slot.reg A') → ∀ (a : Addr) (o : HO), Gs i a = some o → Gs j a = none) ∧
  (∀ (i j : Nat) (A : Abs) (B : AbsO) (p : Addr), ρ[i]? = some (Slot.reg A) → ρ[j]? = some (Slot.own B) → σ[j]? = some (some (V.ref p)) → Gs i p = none)
theorem jN.nil {H0 H Hr : Hp} {σ : St} {ρ : List Slot} (h : ∀ (i : Nat) (A : Abs), ρ[i]? ≠ some (Slot.reg A)) : jN H0 H Hr σ ρ :=
  ⟨fun _ _ => none, fun i A e => absurd e (h i A), fun i _ A _ _ e => absurd e (h i A), fun i _ A _ _ e => absurd e (h i A)⟩
theorem jN.to {H0 H Hr H0' H' Hr' : Hp} {σ σ' : St} {ρ ρ' : List Slot} (R : jN H0 H Hr σ ρ)
    (hreg : ∀ (i : Nat) (A : Abs), ρ'[i]? = some (Slot.reg A) → ρ[i]? = some (Slot.reg A) ∧ σ'[i]? = σ[i]?)
    (hc : ∀ (a : Addr) (o : HO), H a = some o → Hr a = none → H0 a = none → (∀ (j : Nat) (B : AbsO), ρ[j]? = some (Slot.own B) → σ[j]? = some (some (V.ref a)) → False) → H' a = some o ∧ Hr' a = none ∧ H0' a = none)
    (hown : ∀ (j : Nat) (B : AbsO) (p : Addr), ρ'[j]? = some (Slot.own B) → σ'[j]? = some (some (V.ref p)) → (∃ B', ρ[j]? = some (Slot.own B') ∧ σ[j]? = some (some (V.ref p))) ∨ H p = none ∨ Hr p ≠ none ∨ H0 p ≠ none) : jN H0' H' Hr' σ' ρ' := by
  obtain ⟨Gs, h1, h2, h3⟩ := R
  refine ⟨Gs, fun i A e => ?_, fun i j A A' n e e' => h2 i j A A' n (hreg i A e).1 (hreg j A' e').1, fun i j A B p e e' es => ?_⟩
  · obtain ⟨r1, r2⟩ := hreg i A e
    obtain ⟨⟨v, g1, g2⟩, g3⟩ := h1 i A r1
    refine ⟨⟨v, by rw [r2]; exact g1, g2⟩, fun a o q => ?_⟩
    obtain ⟨q1, q2, q3⟩ := g3 a o q
    exact hc a o q1 q2 q3 fun j B hj hs => by rw [h3 i j A B a r1 hj hs] at q; cases q
  · have r1 := (hreg i A e).1
    obtain ⟨_, g3⟩ := h1 i A r1
    rcases hown j B p e' es with ⟨B', z1, z2⟩ | z | z | z
    · exact h3 i j A B' p r1 z1 z2
    · cases q : Gs i p with
      | none => rfl
      | some o => rw [(g3 p o q).1] at z; cases z
    · cases q : Gs i p with
      | none => rfl
      | some o => exact absurd (g3 p o q).2.1 z
    · cases q : Gs i p with
      | none => rfl
      | some o => exact absurd (g3 p o q).2.2 z
theorem c8 {α : Type} {l : List α} {i j : Nat} {x y : α} (h : (l.set i x)[j]? = some y) : (j = i ∧ y = x) ∨ (j ≠ i ∧ l[j]? = some y) := by
  by_cases e : j = i
  · subst e
    by_cases hl : j < l.length
    · rw [List.getElem?_set_self hl] at h; exact .inl ⟨rfl, (Option.some.inj h).symm⟩
    · rw [List.getElem?_eq_none (by rw [List.length_set]; omega)] at h; cases h
  · rw [List.getElem?_set_ne (Ne.symm e)] at h; exact .inr ⟨e, h⟩
theorem jN.set1 {H0 H Hr H0' H' Hr' : Hp} {σ : St} {ρ : List Slot} (R : jN H0 H Hr σ ρ) {i : Nat} {s : Slot} {σ' : St} (hσ : ∀ j : Nat, j ≠ i → σ'[j]? = σ[j]?) (h1 : ∀ A, s ≠ .reg A) (h2 : ∀ B, s ≠ .own B)
    (hc : ∀ (a : Addr) (o : HO), H a = some o → Hr a = none → H0 a = none → (∀ (j : Nat) (B : AbsO), ρ[j]? = some (Slot.own B) → σ[j]? = some (some (V.ref a)) → False) → H' a = some o ∧ Hr' a = none ∧ H0' a = none) : jN H0' H' Hr' σ' (ρ.set i s) :=
  R.to (fun j A h => by
    rcases c8 h with ⟨_, e⟩ | ⟨n, e⟩
    · exact absurd e.symm (h1 A)
    · exact ⟨e, hσ j n⟩) hc (fun j B p h hs => by
    rcases c8 h with ⟨_, e⟩ | ⟨n, e⟩
    · exact absurd e.symm (h2 B)
    · exact .inl ⟨B, e, by rw [← hσ j n]; exact hs⟩)
theorem jN.setO {H0 H Hr H0' H' Hr' : Hp} {σ : St} {ρ : List Slot} (R : jN H0 H Hr σ ρ) {i : Nat} {B : AbsO} {σ' : St} {p : Addr} (hσ : ∀ j : Nat, j ≠ i → σ'[j]? = σ[j]?) (hp : σ'[i]? = some (some (.ref p)))
    (hc : ∀ (a : Addr) (o : HO), H a = some o → Hr a = none → H0 a = none → (∀ (j : Nat) (B : AbsO), ρ[j]? = some (Slot.own B) → σ[j]? = some (some (V.ref a)) → False) → H' a = some o ∧ Hr' a = none ∧ H0' a = none)
    (ho : (∃ B', ρ[i]? = some (Slot.own B') ∧ σ[i]? = some (some (V.ref p))) ∨ H p = none ∨ Hr p ≠ none ∨ H0 p ≠ none) : jN H0' H' Hr' σ' (ρ.set i (.own B)) :=
  R.to (fun j A h => by
    rcases c8 h with ⟨_, e⟩ | ⟨n, e⟩
    · cases e
    · exact ⟨e, hσ j n⟩) hc (fun j B p' h hs => by
    rcases c8 h with ⟨z, e⟩ | ⟨n, e⟩
    · subst z; rw [hp] at hs; cases hs; exact ho
    · exact .inl ⟨B, e, by rw [← hσ j n]; exact hs⟩)
structure EnvOk (H0 : Hp) (σ : St) (ρ : List Slot) (H Hr : Hp) : Prop where
  base : Same H0 H
  sub : Same Hr H
  len : σ.length = ρ.length
  slot : ∀ (i : Nat) (s : Slot), ρ[i]? = some s → im H0 H Hr σ i s
  dis : ∀ (i j : Nat) (p : Addr) (B B' : AbsO), i ≠ j → ρ[i]? = some (Slot.own B) → ρ[j]? = some (Slot.own B') → σ[i]? = some (some (V.ref p)) → σ[j]? = some (some (V.ref p)) → False
  reg : jN H0 H Hr σ ρ
structure Ext (H Hr H' Hr' : Hp) : Prop where
  h : Same H H'
  r : Same Hr Hr'
  s : Same Hr' H'
  n : ∀ a o, Hr' a = some o → Hr a = none → H a = none
theorem Ext.refl {H Hr : Hp} (s : Same Hr H) : Ext H Hr H Hr := ⟨Same.refl _, Same.refl _, s, fun a o h h' => by rw [h] at h'; cases h'⟩
theorem Ext.trans {H Hr H1 Hr1 H2 Hr2 : Hp} (x : Ext H Hr H1 Hr1) (y : Ext H1 Hr1 H2 Hr2) : Ext H Hr H2 Hr2 :=
  ⟨x.h.trans y.h, x.r.trans y.r, y.s, fun a o h h' => by
    cases q : Hr1 a with
    | none => exact x.h.free (y.n a o h q)
    | some u => exact x.n a u q h'⟩
theorem Ext.out {H Hr H' Hr' : Hp} (x : Ext H Hr H' Hr') {a : Addr} {o : HO} (h : H a = some o) (h' : Hr a = none) : Hr' a = none := by
  cases q : Hr' a with
  | none => rfl
  | some u => have := x.n a u q h'; rw [h] at this; cases this
theorem EnvOk.ext {H0 : Hp} {σ : St} {ρ : List Slot} {H Hr H' Hr' : Hp} (E : EnvOk H0 σ ρ H Hr) (x : Ext H Hr H' Hr') : EnvOk H0 σ ρ H' Hr' := by
  refine ⟨E.base.trans x.h, x.s, E.len, fun i s hs => ?_, E.dis, E.reg.to (fun i A h => ⟨h, rfl⟩) (fun a o h1 h2 h3 _ => ⟨x.h _ _ h1, x.out h1 h2, h3⟩) fun j B p h1 h2 => .inl ⟨B, h1, h2⟩⟩
  have h := E.slot i s hs
  cases s with
  | no => trivial
  | reg A => trivial
  | dat A => obtain ⟨v, e, a⟩ := h; exact ⟨v, e, A.mono _ _ _ x.r a⟩
  | new A => obtain ⟨v, e, a⟩ := h; exact ⟨v, e, A.mono _ _ _ (dI _ x.r) a⟩
  | own B =>
    obtain ⟨p, o, e, h0, hr, hh, b⟩ := h
    refine ⟨p, o, e, h0, ?_, x.h _ _ hh, B.mono _ _ _ _ (dI _ x.r) b⟩
    cases q : Hr' p with
    | none => rfl
    | some u => have := x.n p u q hr; rw [hh] at this; cases this
theorem EnvOk.set {H0 : Hp} {σ : St} {ρ : List Slot} {H Hr : Hp} (E : EnvOk H0 σ ρ H Hr) {i : Nat} {f : Bool} {A : Abs} {v : V} (hi : i < ρ.length) (h : A.p v (hp f Hr H0)) : EnvOk H0 (σ.set i (some v)) (ρ.set i (sl f A)) H Hr := by
  have hσ : i < σ.length := by rw [E.len]; exact hi
  have ne : ∀ (B : AbsO), sl f A ≠ .own B := by intro B; cases f <;> intro z <;> cases z
  refine ⟨E.base, E.sub, by simp [E.len], fun j s hs => ?_, fun j k p B B' hjk hj hk ej ek => ?_, E.reg.set1 (fun j n => List.getElem?_set_ne (Ne.symm n)) (fun A z => by cases f <;> cases z) (fun B z => ne B z) fun a o h1 h2 h3 _ => ⟨h1, h2, h3⟩⟩
  · by_cases hj : j = i
    · subst hj
      rw [List.getElem?_set_self hi] at hs
      have e := Option.some.inj hs
      subst e
      cases f
      · exact ⟨v, by rw [List.getElem?_set_self hσ], h⟩
      · exact ⟨v, by rw [List.getElem?_set_self hσ], h⟩
    · rw [List.getElem?_set_ne (Ne.symm hj)] at hs
      have := E.slot j s hs
      have e : (σ.set i (some v))[j]? = σ[j]? := List.getElem?_set_ne (Ne.symm hj)
      cases s with
      | no => trivial
      | reg A => trivial
      | dat A => unfold im at this ⊢; rw [e]; exact this
      | new A => unfold im at this ⊢; rw [e]; exact this
      | own B => unfold im at this ⊢; rw [e]; exact this
  · have h1 : j ≠ i := by
      rintro rfl
      rw [List.getElem?_set_self hi] at hj
      exact ne B (Option.some.inj hj)
    have h2 : k ≠ i := by
      rintro rfl
      rw [List.getElem?_set_self hi] at hk
      exact ne B' (Option.some.inj hk)
    rw [List.getElem?_set_ne (Ne.symm h1)] at hj ej
    rw [List.getElem?_set_ne (Ne.symm h2)] at hk ek
    exact E.dis j k p B B' hjk hj hk ej ek
theorem EnvOk.lay {H0 : Hp} {σ : St} {ρ : List Slot} {H Hr : Hp} (E : EnvOk H0 σ ρ H Hr) {i : Nat} {B : AbsO} {p : Addr} {o : HO} (hi : i < ρ.length) (hn : H p = none) (h : B.p p o (mns Hr H0)) :
    EnvOk H0 (σ.set i (some (.ref p))) (ρ.set i (.own B)) (upd H p o) Hr := by
  have hσ : i < σ.length := by rw [E.len]; exact hi
  have up : Same H (upd H p o) := fun a u e => by rw [upd_ne (ne_of_none e hn)]; exact e
  refine ⟨E.base.trans up, E.sub.trans up, by simp [E.len], fun j s hs => ?_, fun j k q B1 B2 hjk hj hk ej ek => ?_, E.reg.setO (fun j n => List.getElem?_set_ne (Ne.symm n)) (List.getElem?_set_self hσ) (fun a o h1 h2 h3 _ => ⟨up _ _ h1, h2, h3⟩) (.inr (.inl hn))⟩
  · by_cases hj : j = i
    · subst hj
      rw [List.getElem?_set_self hi] at hs
      have e := Option.some.inj hs
      subst e
      exact ⟨p, o, by rw [List.getElem?_set_self hσ], E.base.free hn, E.sub.free hn, upd_same, h⟩
    · rw [List.getElem?_set_ne (Ne.symm hj)] at hs
      have := E.slot j s hs
      have e : (σ.set i (some (.ref p)))[j]? = σ[j]? := List.getElem?_set_ne (Ne.symm hj)
      cases s with
      | no => trivial
      | reg A => trivial
      | dat A => unfold im at this ⊢; rw [e]; exact this
      | new A => unfold im at this ⊢; rw [e]; exact this
      | own B => unfold im at this ⊢; rw [e]; obtain ⟨q, u, e1, e2, e3, e4, e5⟩ := this; exact ⟨q, u, e1, e2, e3, up _ _ e4, e5⟩
  · have old : ∀ (j : Nat) (B1 : AbsO) (q : Addr), j ≠ i → ρ[j]? = some (.own B1) → σ[j]? = some (some (.ref q)) → q ≠ p := fun j B1 q hj h1 h2 => by
      obtain ⟨q', u, e1, _, _, e4, _⟩ := E.slot j _ h1
      rw [h2] at e1
      cases e1
      exact ne_of_none e4 hn
    by_cases h1 : j = i
    · subst h1
      rw [List.getElem?_set_self hσ] at ej
      cases ej
      have h2 : k ≠ j := Ne.symm hjk
      rw [List.getElem?_set_ne (Ne.symm h2)] at hk ek
      exact old k B2 p h2 hk ek rfl
    · rw [List.getElem?_set_ne (Ne.symm h1)] at hj ej
      by_cases h2 : k = i
      · subst h2
        rw [List.getElem?_set_self hσ] at ek
        cases ek
        exact old j B1 p h1 hj ej rfl
      · rw [List.getElem?_set_ne (Ne.symm h2)] at hk ek
        exact E.dis j k q B1 B2 hjk hj hk ej ek
theorem EnvOk.wr {H0 : Hp} {σ : St} {ρ : List Slot} {H Hr : Hp} (E : EnvOk H0 σ ρ H Hr) {i : Nat} {B B1 : AbsO} {p : Addr} {o : HO} (hi : ρ[i]? = some (.own B)) (hp : σ[i]? = some (some (.ref p))) (h : B1.p p o (mns Hr H0)) :
    EnvOk H0 σ (ρ.set i (.own B1)) (upd H p o) Hr := by
  have hl : i < ρ.length := (List.getElem?_eq_some_iff.mp hi).1
  obtain ⟨p', u, e1, e2, e3, e4, e5⟩ := E.slot i _ hi
  rw [hp] at e1
  cases e1
  have keep : ∀ (G : Hp), G p = none → Same G H → Same G (upd H p o) := fun G g s a v e => by rw [upd_ne (ne_of_none e g)]; exact s _ _ e
  refine ⟨keep _ e2 E.base, keep _ e3 E.sub, by simp [E.len], fun j s hs => ?_, fun j k q B2 B3 hjk hj hk ej ek => ?_, E.reg.setO (fun j n => rfl) hp (fun a o h1 h2 h3 h4 => ⟨by rw [upd_ne fun z => h4 i B hi (by rw [z]; exact hp)]; exact h1, h2, h3⟩) (.inl ⟨B, hi, hp⟩)⟩
  · by_cases hj : j = i
    · subst hj
      rw [List.getElem?_set_self hl] at hs
      have e := Option.some.inj hs
      subst e
      exact ⟨p, o, hp, e2, e3, upd_same, h⟩
    · rw [List.getElem?_set_ne (Ne.symm hj)] at hs
      have := E.slot j s hs
      cases s with
      | no => trivial
      | reg A => trivial
      | dat A => exact this
      | new A => exact this
      | own B4 =>
        obtain ⟨q, w, f1, f2, f3, f4, f5⟩ := this
        refine ⟨q, w, f1, f2, f3, ?_, f5⟩
        have : q ≠ p := fun z => by subst z; exact E.dis j i q B4 B hj hs hi f1 hp
        rw [upd_ne this]; exact f4
  · have back : ∀ (m : Nat) (B2 : AbsO), (ρ.set i (.own B1))[m]? = some (.own B2) → ∃ B3, ρ[m]? = some (.own B3) := fun m B2 hm => by
      by_cases z : m = i
      · subst z; exact ⟨B, hi⟩
      · rw [List.getElem?_set_ne (Ne.symm z)] at hm; exact ⟨B2, hm⟩
    obtain ⟨_, g1⟩ := back j B2 hj
    obtain ⟨_, g2⟩ := back k B3 hk
    exact E.dis j k q _ _ hjk g1 g2 ej ek
theorem Ext.lay {H Hr : Hp} (s : Same Hr H) {p : Addr} {o : HO} (hn : H p = none) : Ext H Hr (upd H p o) (upd Hr p o) := by
  refine ⟨fun a u e => by rw [upd_ne (ne_of_none e hn)]; exact e, fun a u e => by rw [upd_ne (ne_of_none e (s.free hn))]; exact e, fun a u e => ?_, fun a u e h => ?_⟩
  · by_cases z : a = p
    · subst z; rw [upd_same] at e ⊢; exact e
    · rw [upd_ne z] at e ⊢; exact s _ _ e
  · by_cases z : a = p
    · subst z; exact hn
    · rw [upd_ne z] at e; rw [h] at e; cases e
theorem ie (f : Bool) {H0 H Hr : Hp} (b : Same H0 H) {p : Addr} {o : HO} (hn : H p = none) : hp f (upd Hr p o) H0 p = some o := by
  cases f
  · exact upd_same
  · exact bu.mpr ⟨b.free hn, upd_same⟩
def nN (Hr H1 H2 : Hp) : Hp := fun a => match Hr a with | some o => some o | none => mns H2 H1 a
theorem Ext.call {H Hr H1 H2 : Hp} (s : Same Hr H) (s1 : Same H H1) (s2 : Same H1 H2) : Ext H Hr H2 (nN Hr H1 H2) := by
  refine ⟨s1.trans s2, fun a o e => by unfold nN; rw [e], fun a o e => ?_, fun a o e h => ?_⟩
  · unfold nN at e
    cases q : Hr a with
    | some u => rw [q] at e; cases e; exact s2 _ _ (s1 _ _ (s _ _ q))
    | none => rw [q] at e; exact (bu.mp e).2
  · unfold nN at e
    rw [h] at e
    exact s1.free (bu.mp e).1
theorem iQ {H0 H Hr H1 H2 : Hp} (b : Same H0 H) (s : Same Hr H) (s1 : Same H H1) : Same (mns H2 H1) (mns (nN Hr H1 H2) H0) := fun a o e => by
  have e' := bu.mp e
  refine bu.mpr ⟨b.free (s1.free e'.1), ?_⟩
  unfold nN
  have : Hr a = none := s.free (s1.free e'.1)
  rw [this]
  exact e
def DE (H0 : Hp) (ρ : List Slot) (t : TE) (f : Bool) (A : Abs) : Prop :=
  ∀ (σ : St) (H Hr : Hp) (Q : VK), EnvOk H0 σ ρ H Hr → (∀ v H' Hr', Ext H Hr H' Hr' → A.p v (hp f Hr' H0) → Q v H') → t σ H Q
def DT (K : PySem.W.Frag) (H0 : Hp) (ρ : List Slot) (t : TT) (b : Bool) : Prop :=
  ∀ (σ : St) (H Hr : Hp) (Q : Bool → Hp → Prop), EnvOk H0 σ ρ H Hr → (∀ H' Hr', Ext H Hr H' Hr' → Q b H') → t σ H Q
inductive AllP : List Abs → List V → Hp → Prop
  | nil {H : Hp} : AllP [] [] H
  | cons {A : Abs} {As : List Abs} {v : V} {vs : List V} {H : Hp} : A.p v H → AllP As vs H → AllP (A :: As) (v :: vs) H
theorem AllP.mono {H H' : Hp} (s : Same H H') : ∀ {As : List Abs} {vs : List V}, AllP As vs H → AllP As vs H'
  | _, _, .nil => .nil
  | _, _, .cons (A := A) h t => .cons (A.mono _ _ _ s h) (AllP.mono s t)
theorem AllP.length {H : Hp} : ∀ {As : List Abs} {vs : List V}, AllP As vs H → As.length = vs.length
  | _, _, .nil => rfl
  | _, _, .cons _ t => by simp [AllP.length t]
def DA (H0 : Hp) (ρ : List Slot) (t : TA) (f : Bool) (As : List Abs) : Prop :=
  ∀ (σ : St) (H Hr : Hp) (Q : List V → Hp → Prop), EnvOk H0 σ ρ H Hr → (∀ vs H' Hr', Ext H Hr H' Hr' → AllP As vs (hp f Hr' H0) → Q vs H') → t σ H Q
abbrev XA := Value → Option Addr → Hp → Prop
structure WZ where
  W : WX
  Z : List Slot → XA
def C0 : WZ := ⟨fun _ _ _ _ => False, fun _ _ _ _ => False⟩
def KR (H0 : Hp) (R : Abs) (rt : V → Hp → Prop) (Hr : Hp) : Prop := ∀ v H', Same H0 H' → Same Hr H' → R.p v (mns H' H0) → rt v H'
def KX (H0 : Hp) (C : WZ) (Hr : Hp) : Prop := ∀ ρ' σ' H' Hr' cls d, C.Z ρ' cls d H' → EnvOk H0 σ' ρ' H' Hr' → Same Hr Hr' → C.W cls d σ' H'
theorem KR.up {H0 : Hp} {R : Abs} {rt : V → Hp → Prop} {Hr Hr' : Hp} (k : KR H0 R rt Hr) (s : Same Hr Hr') : KR H0 R rt Hr' := fun v H' s1 s2 r => k v H' s1 (s.trans s2) r
theorem KX.up {H0 : Hp} {C : WZ} {Hr Hr' : Hp} (k : KX H0 C Hr) (s : Same Hr Hr') : KX H0 C Hr' := fun ρ' σ' H' Hr'' cls d z E s2 => k ρ' σ' H' Hr'' cls d z E (s.trans s2)
theorem KX.no {H0 : Hp} {C : WZ} {Hr : Hp} (h : ∀ ρ' cls d H', ¬ C.Z ρ' cls d H') : KX H0 C Hr := fun ρ' σ' H' Hr' cls d z _ _ => (h _ _ _ _ z).elim
def DS (C : WZ) (H0 : Hp) (ρ : List Slot) (t : TS) (N : List Slot → Prop) (R : Abs) : Prop :=
  ∀ (σ : St) (H Hr : Hp) (D : Ends), EnvOk H0 σ ρ H Hr → (∀ ρ' σ' H' Hr', N ρ' → EnvOk H0 σ' ρ' H' Hr' → Same Hr Hr' → D.nx σ' H') →
    KR H0 R D.rt Hr → KX H0 C Hr → t D σ H
section
variable {H0 : Hp} {ρ : List Slot} {K : PySem.W.Frag}
def scD : PyData → Bool
  | .none => true | .bool _ => true | .int _ => true | .str _ => true | _ => false
theorem vW {H H' : Hp} {d : PyData} {v : V} (hs : scD d = true) (h : Dp K H v d) : Dp K H' v d := by
  cases h with
  | non => exact .non
  | bl b => exact .bl b
  | int i => exact .int i
  | str x => exact .str x
  | lst _ _ => cases hs
  | tup _ _ => cases hs
theorem uN {H H' : Hp} : ∀ {ds : List PyData} {vs : List V}, ds.all scD = true → DpAll K H vs ds → DpAll K H' vs ds
  | [], _, _, h => by cases h; exact .nil
  | d :: ds, _, hs, h => by
    cases h with
    | cons h1 h2 =>
      simp only [List.all_cons, Bool.and_eq_true] at hs
      exact .cons (vW hs.1 h1) (uN hs.2 h2)
theorem FS {t : TE} {d : PyData} {f g : Bool} (h : DE H0 ρ t f (aD K d)) (hs : scD d = true := by rfl) : DE H0 ρ t g (aD K d) := fun σ H Hr Q E k => h σ H Hr Q E fun v H' Hr' x a => k v H' Hr' x (vW hs a)
theorem jl {t : TE} {d e : PyData} {f : Bool} (h : DE H0 ρ t f (aD K d)) (he : d = e) : DE H0 ρ t f (aD K e) := he ▸ h
theorem lR {i : Nat} {A : Abs} (h : ρ[i]? = some (.dat A)) : DE H0 ρ (tVar i) false A := fun σ H Hr Q E k => by
  obtain ⟨v, e, a⟩ := E.slot i _ h
  exact ⟨v, e, k v H Hr (Ext.refl E.sub) a⟩
theorem vZ {i : Nat} {A : Abs} (h : ρ[i]? = some (.new A)) : DE H0 ρ (tVar i) true A := fun σ H Hr Q E k => by
  obtain ⟨v, e, a⟩ := E.slot i _ h
  exact ⟨v, e, k v H Hr (Ext.refl E.sub) a⟩
theorem FR {i : Nat} {A : Abs} {f : Bool} (h : ρ[i]? = some (sl f A)) : DE H0 ρ (tVar i) f A := by
  cases f
  · exact lR h
  · exact vZ h
theorem Ep {v : V} {d : PyData} {f : Bool} (h : ∀ H, Dp K H v d) : DE H0 ρ (tC v) f (aD K d) := fun σ H Hr Q E k => k v H Hr (Ext.refl E.sub) (h _)
theorem uY {i : Int} {f : Bool} : DE H0 ρ (tC (.int i)) f (aD K (.int i)) := Ep fun _ => .int i
theorem D5 {i : Str} {f : Bool} : DE H0 ρ (tC (.str i)) f (aD K (.str i)) := Ep fun _ => .str i
theorem zq {i : Bool} {f : Bool} : DE H0 ρ (tC (.bl i)) f (aD K (.bool i)) := Ep fun _ => .bl i
theorem kQ {r : R2} {ta tb : TE} {A B : Abs} {d : PyData} {f fa fb : Bool} (ha : DE H0 ρ ta fa A) (hb : DE H0 ρ tb fb B)
    (h : ∀ (x y : V) (Hr H : Hp) (Q : VK), Same Hr H → A.p x Hr → B.p y Hr → (∀ v, (∀ G, Dp K G v d) → Q v H) → r x y H Q) : DE H0 ρ (tOp r ta tb) f (aD K d) := fun σ H Hr Q E k => by
  refine ha σ H Hr _ E fun x H1 Hr1 x1 a1 => hb σ H1 Hr1 _ (E.ext x1) fun y H2 Hr2 x2 a2 => ?_
  exact h x y Hr2 H2 Q x2.s (A.mono _ _ _ ((bD fa).trans x2.r) a1) (B.mono _ _ _ (bD fb) a2) fun v hv => k v H2 Hr2 (x1.trans x2) (hv _)
theorem zn {g : Int → Int → V} {ta tb : TE} {i j : Int} {d : PyData} {f fa fb : Bool} (ha : DE H0 ρ ta fa (aD K (.int i))) (hb : DE H0 ρ tb fb (aD K (.int j))) (hg : ∀ G, Dp K G (g i j) d) : DE H0 ρ (tOp (rI0 g) ta tb) f (aD K d) :=
  kQ ha hb fun x y Hr H Q _ a b k => by
    cases a; cases b
    exact ⟨i, j, rfl, rfl, k _ hg⟩
theorem v6 {C : Int → Int → Prop} {g : Int → Int → V} {ta tb : TE} {i j : Int} {d : PyData} {f fa fb : Bool} (ha : DE H0 ρ ta fa (aD K (.int i))) (hb : DE H0 ρ tb fb (aD K (.int j))) (hc : C i j) (hg : ∀ G, Dp K G (g i j) d) : DE H0 ρ (tOp (rI C g) ta tb) f (aD K d) :=
  kQ ha hb fun x y Hr H Q _ a b k => by
    cases a; cases b
    exact ⟨i, j, rfl, rfl, hc, k _ hg⟩
section
variable {ta tb tc : TE} {i j k : Int} {f fa fb fc : Bool}
theorem Es (ha : DE H0 ρ ta fa (aD K (.int i))) (hb : DE H0 ρ tb fb (aD K (.int j))) : DE H0 ρ (tOp (rI0 fun i j => .int (i + j)) ta tb) f (aD K (.int (i + j))) := zn ha hb fun _ => .int _
theorem D4 (ha : DE H0 ρ ta fa (aD K (.int i))) (hb : DE H0 ρ tb fb (aD K (.int j))) : DE H0 ρ (tOp (rI0 fun i j => .int (i - j)) ta tb) f (aD K (.int (i - j))) := zn ha hb fun _ => .int _
theorem D_ (ha : DE H0 ρ ta fa (aD K (.int i))) (hb : DE H0 ρ tb fb (aD K (.int j))) (h : CMul i j) : DE H0 ρ (tOp (rI CMul fun i j => .int (i * j)) ta tb) f (aD K (.int (i * j))) := v6 ha hb h fun _ => .int _
theorem Bv (ha : DE H0 ρ ta fa (aD K (.int i))) (hb : DE H0 ρ tb fb (aD K (.int j))) (h : CDiv i j) : DE H0 ρ (tOp (rI CDiv fun i j => .int (i / j)) ta tb) f (aD K (.int (i / j))) := v6 ha hb h fun _ => .int _
theorem Ec (ha : DE H0 ρ ta fa (aD K (.int i))) (hb : DE H0 ρ tb fb (aD K (.int j))) (h : 0 < j) : DE H0 ρ (tOp (rI (fun _ j => 0 < j) fun i j => .int (i % j)) ta tb) f (aD K (.int (i % j))) := v6 ha hb h fun _ => .int _
theorem D7 (ha : DE H0 ρ ta fa (aD K (.int i))) (hb : DE H0 ρ tb fb (aD K (.int j))) (h : CPow i j) : DE H0 ρ (tOp (rI CPow fun i j => .int (i ^ j.toNat)) ta tb) f (aD K (.int (i ^ j.toNat))) := v6 ha hb h fun _ => .int _
theorem El {g : Int → Int → Bool} (ha : DE H0 ρ ta fa (aD K (.int i))) (hb : DE H0 ρ tb fb (aD K (.int j))) : DE H0 ρ (tOp (rI0 fun i j => .bl (g i j)) ta tb) f (aD K (.bool (g i j))) := zn ha hb fun _ => .bl _
theorem uZ (ha : DE H0 ρ ta fa (aD K (.int i))) (hb : DE H0 ρ tb fb (aD K (.int j))) : DE H0 ρ (tOp rEq ta tb) f (aD K (.bool (decide (i = j)))) := kQ ha hb fun x y Hr H Q _ a b k => by
  cases a; cases b
  exact ⟨rfl, k _ fun _ => by rw [show decide (V.int i = V.int j) = decide (i = j) by simp]; exact .bl _⟩
theorem Ek {x y : Str} (ha : DE H0 ρ ta fa (aD K (.str x))) (hb : DE H0 ρ tb fb (aD K (.str y))) : DE H0 ρ (tOp rEq ta tb) f (aD K (.bool (decide (x = y)))) := kQ ha hb fun x y Hr H Q _ a b k => by
  cases a; cases b
  exact ⟨rfl, k _ fun _ => by rw [show ∀ x y : Str, decide (V.str x = V.str y) = decide (x = y) by intro x y; simp]; exact .bl _⟩
theorem D9 {x y : Str} (ha : DE H0 ρ ta fa (aD K (.str x))) (hb : DE H0 ρ tb fb (aD K (.str y))) : DE H0 ρ (tOp rNe ta tb) f (aD K (.bool (!decide (x = y)))) := kQ ha hb fun x y Hr H Q _ a b k => by
  cases a; cases b
  exact ⟨rfl, k _ fun _ => by rw [show ∀ x y : Str, decide (V.str x = V.str y) = decide (x = y) by intro x y; simp]; exact .bl _⟩
end
end
end Kj

namespace Kj
open PySem L2
section
variable {H0 : Hp} {ρ : List Slot} {K : PySem.W.Frag} {f fa fb fc : Bool} {ta tb tc te : TE} {a b c : Bool}
theorem mJ (h : DE H0 ρ te fa (aD K (.bool b))) : DT K H0 ρ (tTest te) b := fun σ H Hr Q E k => h σ H Hr _ E fun v H' Hr' x a => by cases a; exact ⟨b, rfl, k H' Hr' x⟩
theorem DD (h : DE H0 ρ te fa (aD K (.bool b))) : DT K H0 ρ (tB te) b := fun σ H Hr Q E k => h σ H Hr _ E fun v H' Hr' x a => by cases a; exact ⟨b, rfl, k H' Hr' x⟩
theorem yV {t u : TT} (h : DT K H0 ρ t a) (h2 : a = true → DT K H0 ρ u b) : DT K H0 ρ (tAnd t u) (a && b) := fun σ H Hr Q E k => h σ H Hr _ E fun H' Hr' x => by
  cases a with
  | true => rw [if_pos rfl]; exact h2 rfl σ H' Hr' Q (E.ext x) fun H2 Hr2 x2 => k H2 Hr2 (x.trans x2)
  | false => rw [if_neg Bool.false_ne_true]; exact k H' Hr' x
theorem vT {t u : TT} (h : DT K H0 ρ t a) (h2 : a = false → DT K H0 ρ u b) : DT K H0 ρ (tOr t u) (a || b) := fun σ H Hr Q E k => h σ H Hr _ E fun H' Hr' x => by
  cases a with
  | true => rw [if_pos rfl]; exact k H' Hr' x
  | false => rw [if_neg Bool.false_ne_true]; exact h2 rfl σ H' Hr' Q (E.ext x) fun H2 Hr2 x2 => k H2 Hr2 (x.trans x2)
theorem Dz {t : TT} (h : DT K H0 ρ t a) : DT K H0 ρ (tNot t) (!a) := fun σ H Hr Q E k => h σ H Hr _ E fun H' Hr' x => k H' Hr' x
theorem vU {t : TT} (h : DT K H0 ρ t a) (e : a = b) : DT K H0 ρ t b := e ▸ h
theorem sy (h : DE H0 ρ ta fa (aD K (.bool a))) (h2 : a = true → DE H0 ρ tb fb (aD K (.bool b))) : DE H0 ρ (tAndV ta tb) f (aD K (.bool (a && b))) := fun σ H Hr Q E k => h σ H Hr _ E fun v H' Hr' x q => by
  cases q
  refine ⟨a, rfl, ?_⟩
  cases a with
  | true => rw [if_pos rfl]; exact h2 rfl σ H' Hr' Q (E.ext x) fun v H2 Hr2 x2 q => k v H2 Hr2 (x.trans x2) (vW rfl q)
  | false => rw [if_neg Bool.false_ne_true]; exact k _ H' Hr' x (.bl _)
theorem D8 (h : DE H0 ρ ta fa (aD K (.bool a))) : DE H0 ρ (tNotV ta) f (aD K (.bool (!a))) := fun σ H Hr Q E k => h σ H Hr _ E fun v H' Hr' x q => by
  cases q
  exact ⟨a, rfl, k _ H' Hr' x (.bl _)⟩
theorem FU {t : TT} {A : Abs} (h : DT K H0 ρ t a) (h1 : a = true → DE H0 ρ ta f A) (h2 : a = false → DE H0 ρ tb f A) : DE H0 ρ (tIf t ta tb) f A := fun σ H Hr Q E k => h σ H Hr _ E fun H' Hr' x => by
  cases a with
  | true => rw [if_pos rfl]; exact h1 rfl σ H' Hr' Q (E.ext x) fun v H2 Hr2 x2 q => k v H2 Hr2 (x.trans x2) q
  | false => rw [if_neg Bool.false_ne_true]; exact h2 rfl σ H' Hr' Q (E.ext x) fun v H2 Hr2 x2 q => k v H2 Hr2 (x.trans x2) q
theorem En {g g' : Int → Int → Bool} {i j m : Int} (ha : DE H0 ρ ta fa (aD K (.int i))) (hb : DE H0 ρ tb fb (aD K (.int j))) (hc : DE H0 ρ tc fc (aD K (.int m))) :
    DE H0 ρ (tChain (rI0 fun i j => .bl (g i j)) (rI0 fun i j => .bl (g' i j)) ta tb tc) f (aD K (.bool (g i j && g' j m))) := fun σ H Hr Q E k => by
  refine ha σ H Hr _ E fun x H1 Hr1 x1 q1 => hb σ H1 Hr1 _ (E.ext x1) fun y H2 Hr2 x2 q2 => ?_
  cases q1; cases q2
  refine ⟨i, j, rfl, rfl, g i j, rfl, ?_⟩
  cases hg : g i j with
  | true =>
    rw [if_pos rfl]
    refine hc σ H2 Hr2 _ ((E.ext x1).ext x2) fun z H3 Hr3 x3 q3 => ?_
    cases q3
    exact ⟨j, m, rfl, rfl, k _ H3 Hr3 ((x1.trans x2).trans x3) (by rw [hg, Bool.true_and]; exact .bl _)⟩
  | false => rw [if_neg Bool.false_ne_true]; exact k _ H2 Hr2 (x1.trans x2) (by rw [hg, Bool.false_and]; exact .bl _)
theorem ja : DA H0 ρ tNil f [] := fun σ H Hr Q E k => k [] H Hr (Ext.refl E.sub) .nil
theorem fS {t : TA} {A : Abs} {As : List Abs} (h : DE H0 ρ te fa A) (hr : DA H0 ρ t false As) : DA H0 ρ (tCons te t) false (A :: As) := fun σ H Hr Q E k =>
  h σ H Hr _ E fun v H1 Hr1 x1 a1 => hr σ H1 Hr1 _ (E.ext x1) fun vs H2 Hr2 x2 a2 => k _ H2 Hr2 (x1.trans x2) (.cons (A.mono _ _ _ ((bD fa).trans x2.r) a1) a2)
def DAd (H0 : Hp) (K : PySem.W.Frag) (ρ : List Slot) (t : TA) (f : Bool) (ds : List PyData) : Prop :=
  ∀ (σ : St) (H Hr : Hp) (Q : List V → Hp → Prop), EnvOk H0 σ ρ H Hr → (∀ vs H' Hr', Ext H Hr H' Hr' → DpAll K (hp f Hr' H0) vs ds → Q vs H') → t σ H Q
theorem v8 : DAd H0 K ρ tNil f [] := fun σ H Hr Q E k => k [] H Hr (Ext.refl E.sub) .nil
theorem mO {t : TA} {d : PyData} {ds : List PyData} (h : DE H0 ρ te f (aD K d)) (hr : DAd H0 K ρ t f ds) : DAd H0 K ρ (tCons te t) f (d :: ds) := fun σ H Hr Q E k =>
  h σ H Hr _ E fun v H1 Hr1 x1 a1 => hr σ H1 Hr1 _ (E.ext x1) fun vs H2 Hr2 x2 a2 => k _ H2 Hr2 (x1.trans x2) (.cons (dE (cK f H0 x2.r) _ _ a1) a2)
theorem dD {H : Hp} : ∀ {vs : List V} {ds : List PyData}, DpAll K H vs ds → vs.length = ds.length
  | _, _, .nil => rfl
  | _, _, .cons _ t => by simp [dD t]
theorem hU {H : Hp} : ∀ {vs : List V} {ds : List PyData} {i : Nat} {v : V}, DpAll K H vs ds → vs[i]? = some v → ∃ d, ds[i]? = some d ∧ Dp K H v d
  | _, _, _, _, .nil, e => by simp at e
  | _, _, 0, _, .cons h _, e => by simp at e; subst e; exact ⟨_, rfl, h⟩
  | _, _, i + 1, _, .cons _ t, e => by
    obtain ⟨d, h1, h2⟩ := hU (i := i) t (by simpa using e)
    exact ⟨d, by simpa using h1, h2⟩
theorem oG {H : Hp} : ∀ {vs ws : List V} {ds es : List PyData}, DpAll K H vs ds → DpAll K H ws es → DpAll K H (vs ++ ws) (ds ++ es)
  | _, _, _, _, .nil, h => h
  | _, _, _, _, .cons h t, h' => .cons h (oG t h')
theorem pR {H : Hp} : ∀ {vs : List V} {ds : List PyData} (n : Nat), DpAll K H vs ds → DpAll K H (vs.drop n) (ds.drop n)
  | _, _, 0, h => h
  | _, _, _ + 1, .nil => .nil
  | _, _, n + 1, .cons _ t => pR n t
theorem pQ {H : Hp} : ∀ {vs : List V} {ds : List PyData} (n : Nat), DpAll K H vs ds → DpAll K H (vs.take n) (ds.take n)
  | _, _, 0, _ => .nil
  | _, _, _ + 1, .nil => .nil
  | _, _, n + 1, .cons h t => .cons h (pQ n t)
theorem D3 {t : TA} {ds : List PyData} (h : DAd H0 K ρ t f ds) (hl : ds.length ≤ 1000 := by first | decide | simp) : DE H0 ρ (tTup t) f (aD K (.tuple ds)) := fun σ H Hr Q E k => h σ H Hr _ E fun vs H1 Hr1 x1 a1 => by
  refine ⟨by rw [dD a1]; exact Nat.le_trans hl (by decide), fun p hn => ?_⟩
  have E1 := E.ext x1
  refine k _ _ _ (x1.trans (Ext.lay x1.s hn)) (.tup (SqT.of (ie f E1.base hn)) (dpa_mono (cK f H0 (Ext.lay x1.s hn).r) _ _ a1))
theorem Ef {t : TA} {ds : List PyData} (h : DAd H0 K ρ t f ds) (hl : ds.length ≤ 1000 := by first | decide | simp) : DE H0 ρ (tLst t) f (aD K (.list ds)) := fun σ H Hr Q E k => h σ H Hr _ E fun vs H1 Hr1 x1 a1 => by
  refine ⟨by rw [dD a1]; exact Nat.le_trans hl (by decide), fun p hn => ?_⟩
  have E1 := E.ext x1
  refine k _ _ _ (x1.trans (Ext.lay x1.s hn)) (.lst (SqL.of (ie f E1.base hn)) (dpa_mono (cK f H0 (Ext.lay x1.s hn).r) _ _ a1))
theorem zC {H : Hp} {xs : List V} {ds : List PyData} {i : Int} {d : PyData} (h : DpAll K H xs ds) (e : atI ds i = some d) : ∃ v, atI xs i = some v ∧ Dp K H v d := by
  unfold atI at e ⊢
  rw [dD h]
  cases q : ixN ds.length i with
  | none => rw [q] at e; cases e
  | some j =>
    rw [q] at e
    have e' : ds[j]? = some d := e
    have hj : j < xs.length := by rw [dD h]; exact (List.getElem?_eq_some_iff.mp e').1
    obtain ⟨d', h1, h2⟩ := hU h (List.getElem?_eq_getElem hj)
    rw [h1] at e'
    cases e'
    exact ⟨xs[j], by show xs[j]? = _; rw [List.getElem?_eq_getElem hj], h2⟩
theorem Ei {ds : List PyData} {i : Int} {d : PyData} (ha : DE H0 ρ ta f (aD K (.list ds))) (hb : DE H0 ρ tb fb (aD K (.int i))) (hd : atI ds i = some d) : DE H0 ρ (tOp (rIxL K) ta tb) f (aD K d) := fun σ H Hr Q E k => by
  refine ha σ H Hr _ E fun x H1 Hr1 x1 a1 => hb σ H1 Hr1 _ (E.ext x1) fun y H2 Hr2 x2 a2 => ?_
  cases a2
  cases a1 with
  | lst hs hA =>
    obtain ⟨v, hv, hd'⟩ := zC (dpa_mono (cK f H0 x2.r) _ _ hA) hd
    exact ⟨_, _, i, v, rfl, rfl, ((bD f).trans (x2.r.trans x2.s)).seq hs, hv, k v H2 Hr2 (x1.trans x2) hd'⟩
theorem Eg {ds : List PyData} {i : Int} {d : PyData} (ha : DE H0 ρ ta f (aD K (.tuple ds))) (hb : DE H0 ρ tb fb (aD K (.int i))) (hd : atI ds i = some d) : DE H0 ρ (tOp (rIxT K) ta tb) f (aD K d) := fun σ H Hr Q E k => by
  refine ha σ H Hr _ E fun x H1 Hr1 x1 a1 => hb σ H1 Hr1 _ (E.ext x1) fun y H2 Hr2 x2 a2 => ?_
  cases a2
  cases a1 with
  | tup hs hA =>
    obtain ⟨v, hv, hd'⟩ := zC (dpa_mono (cK f H0 x2.r) _ _ hA) hd
    exact ⟨_, _, i, v, rfl, rfl, l4 ((bD f).trans (x2.r.trans x2.s)) hs, hv, k v H2 Hr2 (x1.trans x2) hd'⟩
theorem Eh {z : Str} {i : Int} {c : Nat} (ha : DE H0 ρ ta fa (aD K (.str z))) (hb : DE H0 ρ tb fb (aD K (.int i))) (hz : z.length ≤ sizeLine) (hd : atI z.cps.toList i = some c) : DE H0 ρ (tOp rIxS ta tb) f (aD K (.str ⟨#[c]⟩)) :=
  kQ ha hb fun x y Hr H Q _ a b k => by
    cases a; cases b
    exact ⟨z, i, c, rfl, rfl, hz, hd, k _ fun _ => .str _⟩
def DO (K : PySem.W.Frag) (H0 : Hp) (ρ : List Slot) (t : TO) (o : Option Int) : Prop :=
  ∀ (σ : St) (H Hr : Hp) (Q : Option Int → Hp → Prop), EnvOk H0 σ ρ H Hr → (∀ H' Hr', Ext H Hr H' Hr' → Q o H') → t σ H Q
theorem FK : DO K H0 ρ tNoPart none := fun σ H Hr Q E k => k H Hr (Ext.refl E.sub)
theorem FJ {i : Int} (h : DE H0 ρ te fa (aD K (.int i))) : DO K H0 ρ (tPart te) (some i) := fun σ H Hr Q E k => h σ H Hr _ E fun v H1 Hr1 x a => by cases a; exact ⟨i, rfl, k H1 Hr1 x⟩
def iD {α : Type} (xs : List α) (lo hi : Option Int) : List α := (xs.drop (HT.sIx xs.length 0 lo)).take (HT.sIx xs.length xs.length hi - HT.sIx xs.length 0 lo)
theorem FT {ds : List PyData} {tl th : TO} {lo hi : Option Int} (h : DE H0 ρ te f (aD K (.list ds))) (hl : DO K H0 ρ tl lo) (hh : DO K H0 ρ th hi) : DE H0 ρ (tSl (rSlL K) te tl th) f (aD K (.list (iD ds lo hi))) := fun σ H Hr Q E k => by
  refine h σ H Hr _ E fun v H1 Hr1 x1 a1 => hl σ H1 Hr1 _ (E.ext x1) fun H2 Hr2 x2 => hh σ H2 Hr2 _ ((E.ext x1).ext x2) fun H3 Hr3 x3 => ?_
  cases a1 with
  | @lst a xs _ hs hA =>
    have x23 := x2.trans x3
    have E3 := ((E.ext x1).ext x2).ext x3
    refine ⟨_, _, rfl, ((bD f).trans (x23.r.trans x23.s)).seq hs, fun p hn => ?_⟩
    refine k _ _ _ ((x1.trans x23).trans (Ext.lay x3.s hn)) (.lst (SqL.of (ie f E3.base hn)) ?_)
    have hA' := dpa_mono (cK f H0 (x23.r.trans (Ext.lay (o := .lst (cutV xs lo hi)) x3.s hn).r)) _ _ hA
    show DpAll K _ (cutV xs lo hi) _
    have e : iD ds lo hi = (ds.drop (HT.sIx xs.length 0 lo)).take (HT.sIx xs.length xs.length hi - HT.sIx xs.length 0 lo) := by unfold iD; rw [dD hA]
    rw [e]
    exact pQ _ (pR _ hA')
theorem D6 {ds : List PyData} {tl th : TO} {lo hi : Option Int} (h : DE H0 ρ te fa (aD K (.list ds))) (hl : DO K H0 ρ tl lo) (hh : DO K H0 ρ th hi) (hf : ds.all scD = true) : DE H0 ρ (tSl (rSlL K) te tl th) f (aD K (.list (iD ds lo hi))) := fun σ H Hr Q E k => by
  refine h σ H Hr _ E fun v H1 Hr1 x1 a1 => hl σ H1 Hr1 _ (E.ext x1) fun H2 Hr2 x2 => hh σ H2 Hr2 _ ((E.ext x1).ext x2) fun H3 Hr3 x3 => ?_
  cases a1 with
  | @lst a xs _ hs hA =>
    have x23 := x2.trans x3
    have E3 := ((E.ext x1).ext x2).ext x3
    refine ⟨_, _, rfl, ((bD fa).trans (x23.r.trans x23.s)).seq hs, fun p hn => ?_⟩
    refine k _ _ _ ((x1.trans x23).trans (Ext.lay x3.s hn)) (.lst (SqL.of (ie f E3.base hn)) ?_)
    have hA' := uN (H' := hp f (upd Hr3 p (.lst (cutV xs lo hi))) H0) hf hA
    show DpAll K _ (cutV xs lo hi) _
    have e : iD ds lo hi = (ds.drop (HT.sIx xs.length 0 lo)).take (HT.sIx xs.length xs.length hi - HT.sIx xs.length 0 lo) := by unfold iD; rw [dD hA]
    rw [e]
    exact pQ _ (pR _ hA')
theorem sv {d : PyData} {n : Nat} (h : DE H0 ρ te fa (aD K d)) (hn : (match d with | .list ds => n = ds.length | .tuple ds => n = ds.length | .str z => z.length ≤ sizeLine ∧ n = z.length | _ => False)) :
    DE H0 ρ (tCB (fun xs H Q => ∃ x n, xs = [x] ∧ LenV K x H n ∧ Q (.int n) H) (tCons te tNil)) f (aD K (.int n)) := fun σ H Hr Q E k => h σ H Hr _ E fun v H1 Hr1 x1 a1 => by
  refine ⟨v, n, rfl, ?_, k _ H1 Hr1 x1 (.int _)⟩
  cases a1 with
  | non => exact hn.elim
  | bl _ => exact hn.elim
  | int _ => exact hn.elim
  | str x => exact hn
  | lst hs hA => exact .inl ⟨_, ((bD fa).trans x1.s).seq hs, by rw [dD hA]; exact hn⟩
  | tup hs hA => exact .inr ⟨_, l4 ((bD fa).trans x1.s) hs, by rw [dD hA]; exact hn⟩
theorem Bq {ds : List PyData} (h : DE H0 ρ te fa (aD K (.list ds))) : DE H0 ρ (tCB (fun xs H Q => ∃ x n, xs = [x] ∧ LenV K x H n ∧ Q (.int n) H) (tCons te tNil)) f (aD K (.int ds.length)) := sv h rfl
theorem Ed {i j : Int} (h : DE H0 ρ ta fa (aD K (.int i))) (h2 : DE H0 ρ tb fb (aD K (.int j))) : DE H0 ρ (tCB (fun xs H Q => ∃ i j, xs = [.int i, .int j] ∧ Q (.int (if j < i then j else i)) H) (tCons ta (tCons tb tNil))) f (aD K (.int (if j < i then j else i))) := fun σ H Hr Q E k =>
  h σ H Hr _ E fun v H1 Hr1 x1 a1 => h2 σ H1 Hr1 _ (E.ext x1) fun v2 H2 Hr2 x2 a2 => by
  cases a1; cases a2
  exact ⟨i, j, rfl, k _ H2 Hr2 (x1.trans x2) (.int _)⟩
theorem Ee {i j : Int} (h : DE H0 ρ ta fa (aD K (.int i))) (h2 : DE H0 ρ tb fb (aD K (.int j))) : DE H0 ρ (tCB (fun xs H Q => ∃ i j, xs = [.int i, .int j] ∧ Q (.int (if j > i then j else i)) H) (tCons ta (tCons tb tNil))) f (aD K (.int (if j > i then j else i))) := fun σ H Hr Q E k =>
  h σ H Hr _ E fun v H1 Hr1 x1 a1 => h2 σ H1 Hr1 _ (E.ext x1) fun v2 H2 Hr2 x2 a2 => by
  cases a1; cases a2
  exact ⟨i, j, rfl, k _ H2 Hr2 (x1.trans x2) (.int _)⟩
def G_ : R2 := fun x y H Q => ∃ z n, x = .str z ∧ y = .int n ∧ MulOk z n ∧ Q (.str (Txt.mul z n)) H
def Bo (H0 : Hp) (ρ ρ' : List Slot) : Prop := ∀ (σ : St) (H Hr : Hp), EnvOk H0 σ ρ H Hr → ∃ Hr', Same Hr Hr' ∧ EnvOk H0 σ ρ' H Hr'
theorem cO : Bo H0 ρ ρ := fun σ H Hr E => ⟨Hr, Same.refl _, E⟩
def oL (K : PySem.W.Frag) (ds : List PyData) : AbsO := ⟨fun _ o H => ∃ xs, o = .lst xs ∧ DpAll K H xs ds, fun _ _ _ _ s ⟨xs, e, h⟩ => ⟨xs, e, dpa_mono s _ _ h⟩⟩
theorem EA {i : Nat} {ds : List PyData} (hi : ρ[i]? = some (.own (oL K ds))) : Bo H0 ρ (ρ.set i (.new (aD K (.list ds)))) := fun σ H Hr E => by
  have hl : i < ρ.length := (List.getElem?_eq_some_iff.mp hi).1
  obtain ⟨p, o, e1, e2, e3, e4, xs, e5, e6⟩ := E.slot i _ hi
  subst e5
  have up : Same Hr (upd Hr p (.lst xs)) := fun a u e => by rw [upd_ne (ne_of_none e e3)]; exact e
  refine ⟨upd Hr p (.lst xs), up, E.base, fun a u e => ?_, by simp [E.len], fun j s hs => ?_, fun j k q B B' hjk hj hk ej ek => ?_, E.reg.set1 (fun j n => rfl) (fun A z => by cases z) (fun B z => by cases z) fun a o h1 h2 h3 h4 => ⟨h1, by rw [upd_ne fun z => h4 i _ hi (by rw [z]; exact e1)]; exact h2, h3⟩⟩
  · by_cases z : a = p
    · subst z; rw [upd_same] at e; cases e; exact e4
    · rw [upd_ne z] at e; exact E.sub _ _ e
  · by_cases hj : j = i
    · subst hj
      rw [List.getElem?_set_self hl] at hs
      have e := Option.some.inj hs
      subst e
      refine ⟨_, e1, .lst (SqL.of (bu.mpr ⟨e2, upd_same⟩)) (dpa_mono (dI H0 up) _ _ e6)⟩
    · rw [List.getElem?_set_ne (Ne.symm hj)] at hs
      have := E.slot j s hs
      cases s with
      | no => trivial
      | reg A => trivial
      | dat A => obtain ⟨v, g1, g2⟩ := this; exact ⟨v, g1, A.mono _ _ _ up g2⟩
      | new A => obtain ⟨v, g1, g2⟩ := this; exact ⟨v, g1, A.mono _ _ _ (dI H0 up) g2⟩
      | own B =>
        obtain ⟨q, u, g1, g2, g3, g4, g5⟩ := this
        have : q ≠ p := fun z => by subst z; exact E.dis j i q B _ hj hs hi g1 e1
        exact ⟨q, u, g1, g2, by rw [upd_ne this]; exact g3, g4, B.mono _ _ _ _ (dI H0 up) g5⟩
  · have back : ∀ (m : Nat) (B2 : AbsO), (ρ.set i (.new (aD K (.list ds))))[m]? = some (Slot.own B2) → ρ[m]? = some (Slot.own B2) := fun m B2 hm => by
      by_cases z : m = i
      · subst z; rw [List.getElem?_set_self hl] at hm; cases hm
      · rw [List.getElem?_set_ne (Ne.symm z)] at hm; exact hm
    exact E.dis j k q _ _ hjk (back _ _ hj) (back _ _ hk) ej ek
theorem Er {ρ' : List Slot} {d : PyData} {g : Bool} (bo : Bo H0 ρ ρ') (h : DE H0 ρ' te f (aD K d)) (hs : scD d = true := by rfl) : DE H0 ρ te g (aD K d) := fun σ H Hr Q E k => by
  obtain ⟨Hr', s, E'⟩ := bo σ H Hr E
  refine h σ H Hr' _ E' fun v H1 Hr1 x1 a1 => k v H1 _ (Ext.call E.sub (Same.refl _) x1.h) (vW hs a1)
theorem DC {ρ' : List Slot} {t : TT} (bo : Bo H0 ρ ρ') (h : DT K H0 ρ' t b) : DT K H0 ρ t b := fun σ H Hr Q E k => by
  obtain ⟨Hr', s, E'⟩ := bo σ H Hr E
  exact h σ H Hr' _ E' fun H1 Hr1 x1 => k H1 _ (Ext.call E.sub (Same.refl _) x1.h)
abbrev Spec := List Abs → Abs → Prop
def spF (S : Spec) : Sp := fun vs H Q _ => ∃ As R, S As R ∧ AllP As vs H ∧ ∀ v H', Same H H' → R.p v (mns H' H) → Q v H'
theorem mM {S : Spec} {As : List Abs} {R : Abs} {t : TA} {Ex : XK} {ρ' : List Slot} (bo : Bo H0 ρ ρ') (ha : DA H0 ρ' t false As) (hs : S As R) : DE H0 ρ (tCall (spF S) [] Ex t) f R := fun σ H Hr Q E k => by
  obtain ⟨Hr', s, E'⟩ := bo σ H Hr E
  refine ha σ H Hr' _ E' fun vs H1 Hr1 x1 a1 => ?_
  show spF S (vs ++ []) H1 Q Ex
  rw [List.append_nil]
  refine ⟨As, R, hs, a1.mono x1.s, fun v H2 s2 r2 => k v H2 _ (Ext.call E.sub x1.h s2) ?_⟩
  have r3 := R.mono _ _ _ (iQ E.base E.sub x1.h) r2
  cases f
  · exact R.mono _ _ _ jg r3
  · exact r3
variable {C : WZ} {N N1 : List Slot → Prop} {R : Abs} {t u w : TS}
theorem kB {i n : Nat} (h : Nat.blt i n = true) : i < n := Nat.le_of_ble_eq_true h
theorem pO (h : DS C H0 ρ t N1 R) (h2 : ∀ ρ', N1 ρ' → DS C H0 ρ' u N R) : DS C H0 ρ (tSeq t u) N R := fun σ H Hr D E kn kr kx =>
  h σ H Hr _ E (fun ρ' σ' H' Hr' n E' s => h2 ρ' n σ' H' Hr' D E' (fun ρ2 σ2 H2 Hr2 n2 E2 s2 => kn ρ2 σ2 H2 Hr2 n2 E2 (s.trans s2)) (kr.up s) (kx.up s)) kr kx
theorem mK {ρ1 : List Slot} (h : DS C H0 ρ t (fun r => r = ρ1) R) (h2 : DS C H0 ρ1 u N R) : DS C H0 ρ (tSeq t u) N R := pO h fun _ e => e ▸ h2
theorem gm (h : DS C H0 ρ t N1 R) (h2 : ∀ ρ', N1 ρ' → N ρ') : DS C H0 ρ t N R := fun σ H Hr D E kn kr kx => h σ H Hr D E (fun ρ' σ' H' Hr' n E' s => kn ρ' σ' H' Hr' (h2 _ n) E' s) kr kx
theorem A9 (h : N ρ) : DS C H0 ρ tNext N R := fun σ H Hr D E kn kr kx => kn ρ σ H Hr h E (Same.refl _)
theorem oF (h : DS C H0 ρ u N R) : DS C H0 ρ (tSeq tNext u) N R := h
theorem DF {i : Nat} {A : Abs} (h : DE H0 ρ te f A) (hi : Nat.blt i ρ.length = true := by rfl) : DS C H0 ρ (tAsg te (gName i)) (fun r => r = ρ.set i (sl f A)) R := fun σ H Hr D E kn kr kx =>
  h σ H Hr _ E fun v H1 Hr1 x1 a1 => kn _ _ _ Hr1 rfl ((E.ext x1).set (kB hi) a1) x1.r
theorem DI {i : Nat} (hi : Nat.blt i ρ.length = true := by rfl) : DS C H0 ρ (tAsg (tLst tNil) (gName i)) (fun r => r = ρ.set i (.own (oL K []))) R := fun σ H Hr D E kn kr kx =>
  ⟨by decide, fun p hn => kn _ _ _ Hr rfl (E.lay (kB hi) hn ⟨[], rfl, .nil⟩) (Same.refl _)⟩
theorem DK {i : Nat} {ds : List PyData} {d : PyData} (hi : ρ[i]? = some (.own (oL K ds))) (h : DE H0 ρ te true (aD K d)) (hl : ds.length < 100000) : DS C H0 ρ (tDrop (tBM K "list" rAppend (tVar i) (tCons te tNil))) (fun r => r = ρ.set i (.own (oL K (ds ++ [d])))) R := fun σ H Hr D E kn kr kx => by
  obtain ⟨p, o, e1, e2, e3, e4, xs, e5, e6⟩ := E.slot i _ hi
  subst e5
  refine ⟨_, e1, .inl ⟨rfl, _, SqL.of e4⟩, h σ H Hr _ E fun v H1 Hr1 x1 a1 => ?_⟩
  have E1 := E.ext x1
  refine ⟨p, xs, v, rfl, rfl, x1.h _ _ e4, ?_, kn _ _ _ Hr1 rfl (E1.wr hi e1 ⟨_, rfl, oG (dpa_mono (dI H0 x1.r) _ _ e6) (.cons a1 .nil)⟩) x1.r⟩
  rw [dD e6]
  exact Nat.lt_trans hl (by rw [sizeLine_eq]; decide)
theorem vV {A : Abs} (h : DE H0 ρ te f A) : DS C H0 ρ (tDrop te) (fun r => r = ρ) R := fun σ H Hr D E kn kr kx => h σ H Hr _ E fun v H1 Hr1 x1 a1 => kn _ _ _ Hr1 rfl (E.ext x1) x1.r
theorem Cg {ct : TT} {a : Bool} (h : DT K H0 ρ ct a) (h1 : a = true → DS C H0 ρ t N R) (h2 : a = false → DS C H0 ρ u N R) : DS C H0 ρ (tIfS ct t u) N R := fun σ H Hr D E kn kr kx => h σ H Hr _ E fun H1 Hr1 x1 => by
  cases a with
  | true => rw [if_pos rfl]; exact h1 rfl σ H1 Hr1 D (E.ext x1) (fun ρ' σ' H' Hr' n E' s => kn ρ' σ' H' Hr' n E' (x1.r.trans s)) (kr.up x1.r) (kx.up x1.r)
  | false => rw [if_neg Bool.false_ne_true]; exact h2 rfl σ H1 Hr1 D (E.ext x1) (fun ρ' σ' H' Hr' n E' s => kn ρ' σ' H' Hr' n E' (x1.r.trans s)) (kr.up x1.r) (kx.up x1.r)
theorem sf {ct : TT} {a : Bool} (h : DT K H0 ρ ct a) (h1 : a = true → DS C H0 ρ (tSeq t w) N R) (h2 : a = false → DS C H0 ρ (tSeq u w) N R) : DS C H0 ρ (tSeq (tIfS ct t u) w) N R :=
  fun σ H Hr D E kn kr kx => Cg (C := C) (t := tSeq t w) (u := tSeq u w) h h1 h2 σ H Hr D E kn kr kx
theorem DH {A : Abs} (h : DE H0 ρ te true A) (hR : ∀ v G, A.p v G → R.p v G) : DS C H0 ρ (tRet te) N R := fun σ H Hr D E kn kr kx => h σ H Hr _ E fun v H1 Hr1 x1 a1 => kr v H1 (E.base.trans x1.h) (x1.r.trans x1.s) (hR _ _ (A.mono _ _ _ (dI H0 x1.s) a1))
theorem le {A : Abs} (h : DE H0 ρ te true A) (hR : ∀ v G, A.p v G → R.p v G) : DS C H0 ρ (tSeq (tRet te) u) N R := fun σ H Hr D E kn kr kx => DH (C := C) (N := fun _ => False) h hR σ H Hr { D with nx := u D } E (fun _ _ _ _ n _ _ => n.elim) kr kx
end
end Kj

namespace Kj
open PySem L2
section
variable {C : WZ} {H0 : Hp} {ρ : List Slot} {K : PySem.W.Frag} {f fa fb fc : Bool} {ta tb tc te : TE} {a b c : Bool} {N N1 : List Slot → Prop} {R : Abs} {t u w : TS}
theorem yW {ct : TT} {tb : TS} (I : Nat → List Slot → Prop) (m0 : Nat) (h0 : I m0 ρ)
    (hs : ∀ m r, I m r → ∃ b, DT K H0 r ct b ∧ (b = true → DS C H0 r tb (fun r' => ∃ m', m' < m ∧ I m' r') R) ∧ (b = false → N r)) : DS C H0 ρ (tWhile ct tb) N R := fun σ H Hr D E kn kr kx => by
  refine ⟨fun m σ' H' => ∃ r Hr', I m r ∧ EnvOk H0 σ' r H' Hr' ∧ Same Hr Hr', ⟨m0, ρ, Hr, h0, E, Same.refl _⟩, ?_⟩
  rintro m σ' H' ⟨r, Hr', i', E', s⟩
  obtain ⟨b, dt, h1, h2⟩ := hs m r i'
  refine dt σ' H' Hr' _ E' fun H1 Hr1 x1 => ?_
  cases b with
  | true =>
    rw [if_pos rfl]
    refine ⟨fun σ2 H2 => ∃ m', m' < m ∧ ∃ r Hr', I m' r ∧ EnvOk H0 σ2 r H2 Hr' ∧ Same Hr Hr', fun _ _ q => q, h1 rfl σ' H1 Hr1 _ (E'.ext x1) (fun r2 σ2 H2 Hr2 n2 E2 s2 => ?_) (kr.up (s.trans x1.r)) (kx.up (s.trans x1.r))⟩
    obtain ⟨m', lt, i2⟩ := n2
    exact ⟨m', lt, r2, Hr2, i2, E2, (s.trans x1.r).trans s2⟩
  | false =>
    rw [if_neg Bool.false_ne_true]
    exact kn r σ' H1 Hr1 (h2 rfl) (E'.ext x1) (s.trans x1.r)
theorem DJ {ρ' : List Slot} (bo : Bo H0 ρ ρ') (h : DS C H0 ρ' t N R) : DS C H0 ρ t N R := fun σ H Hr D E kn kr kx => by
  obtain ⟨Hr', s, E'⟩ := bo σ H Hr E
  exact h σ H Hr' D E' (fun r2 σ2 H2 Hr2 n2 E2 s2 => kn r2 σ2 H2 Hr2 n2 E2 (s.trans s2)) (kr.up s) (kx.up s)
def tyN : PyData → String
  | .none => "NoneType" | .bool _ => "bool" | .int _ => "int" | .str _ => "str" | .list _ => "list" | .tuple _ => "tuple" | .dict _ => "dict"
theorem CD {H : Hp} {p : Addr} {xs : List V} (h : SqL K H p xs) : TyX K H (.ref p) (.type "list") := by
  rcases h with (h | ⟨o, h⟩) | ⟨o, its, n, h1, h2, _⟩
  · exact .base (.lst h)
  · exact .base (.frz h)
  · exact .kList h1 h2
theorem CC {H : Hp} {p : Addr} {xs : List V} (h : SqT K H p xs) : TyX K H (.ref p) (.type "tuple") := by
  rcases h with (h | ⟨o, h⟩) | ⟨o, its, n, h1, h2, _⟩
  · exact .base (.tup h)
  · exact .fTuple h
  · exact .kTuple h1 h2
theorem FI {H : Hp} {v : V} {d : PyData} (h : Dp K H v d) : TyX K H v (.type (tyN d)) := by
  cases h with
  | non => exact .base .non
  | bl b => exact .base (.bl b)
  | int i => exact .base (.int i)
  | str x => exact .base (.str x)
  | lst hs _ => exact CD hs
  | tup hs _ => exact CC hs
theorem vi {H H' : Hp} {v : V} {d : PyData} (s : Same H H') (h : Dp K H v d) : TyX K H' v (.type (tyN d)) := FI (dE s _ _ h)
theorem i_ {d : PyData} {T : String} (h : DE H0 ρ te fa (aD K d)) (hk : kitB (tyN d) T = some b) : DE H0 ρ (tCB (rIsi K) (tCons te (tCons (tC (.ty T)) tNil))) f (aD K (.bool b)) := fun σ H Hr Q E k => h σ H Hr _ E fun v H1 Hr1 x1 a1 =>
  ⟨v, .ty T, _, .type T, b, rfl, .ty T, vi ((bD fa).trans x1.s) a1, kit_ty hk, k _ H1 Hr1 x1 (.bl _)⟩
theorem Bu {d : PyData} {T U : String} {b1 b2 : Bool} (h : DE H0 ρ te fa (aD K d)) (hk : kitB (tyN d) T = some b1) (hk2 : kitB (tyN d) U = some b2) :
    DE H0 ρ (tCB (rIsiT K) (tCons te (tCons (tTup (tCons (tC (.ty T)) (tCons (tC (.ty U)) tNil))) tNil))) f (aD K (.bool (b1 || b2))) := fun σ H Hr Q E k => h σ H Hr _ E fun v H1 Hr1 x1 a1 => by
  refine ⟨(show 2 ≤ sizeLine by decide), fun p hn => ?_⟩
  have x2 : Ext H1 Hr1 (upd H1 p (.tup [.ty T, .ty U])) (upd Hr1 p (.tup [.ty T, .ty U])) := Ext.lay x1.s hn
  refine ⟨v, p, [.ty T, .ty U], _, [.type T, .type U], b1 || b2, rfl, upd_same, .cons (.ty T) (.cons (.ty U) .nil), vi (((bD fa).trans x2.r).trans x2.s) a1, ?_, k _ _ _ (x1.trans x2) (.bl _)⟩
  refine kitAny_cons (kit_ty hk) (fun e => ?_) (fun e => by rw [e]; rfl)
  subst e
  refine kitAny_cons (kit_ty hk2) (fun e => ?_) (fun e => by rw [e]; rfl)
  subst e
  exact kitAny_nil
theorem zo {a b : Bool} (ha : DE H0 ρ ta fa (aD K (.bool a))) (hb : DE H0 ρ tb fb (aD K (.bool b))) : DE H0 ρ (tOp rEq ta tb) f (aD K (.bool (decide (a = b)))) := kQ ha hb fun x y Hr H Q _ p q k => by
  cases p; cases q
  exact ⟨rfl, k _ fun _ => by rw [show decide (V.bl a = V.bl b) = decide (a = b) by simp]; exact .bl _⟩
theorem su {a b : Bool} (ha : DE H0 ρ ta fa (aD K (.bool a))) (hb : DE H0 ρ tb fb (aD K (.bool b))) : DE H0 ρ (tOp rNe ta tb) f (aD K (.bool (!decide (a = b)))) := kQ ha hb fun x y Hr H Q _ p q k => by
  cases p; cases q
  exact ⟨rfl, k _ fun _ => by rw [show decide (V.bl a = V.bl b) = decide (a = b) by simp]; exact .bl _⟩
end
theorem mW {H : Hp} : ∀ {As : List Abs} {vs : List V}, AllP As vs H → ∀ (i : Nat) (A : Abs), As[i]? = some A → ∃ v, vs[i]? = some v ∧ A.p v H
  | _, _, .nil, i, A, e => by simp at e
  | _, _, .cons h t, 0, A, e => by simp at e; subst e; exact ⟨_, rfl, h⟩
  | _, _, .cons h t, i + 1, A, e => by simpa using mW t i A (by simpa using e)
theorem gW {H : Hp} : ∀ {As : List Abs} {vs : List V} (n : Nat), AllP As vs H → EnvOk H (vs.map some ++ List.replicate n none) (As.map Slot.dat ++ List.replicate n Slot.no) H H := fun {As vs} n h => by
  have hl := h.length
  have cls : ∀ (i : Nat) (s : Slot), (As.map Slot.dat ++ List.replicate n Slot.no)[i]? = some s → s = .no ∨ ∃ A, s = .dat A ∧ As[i]? = some A := fun i s hs => by
    by_cases hi : i < As.length
    · rw [List.getElem?_append_left (by simpa using hi), List.getElem?_map, List.getElem?_eq_getElem hi] at hs
      exact .inr ⟨As[i], (Option.some.inj hs).symm, List.getElem?_eq_getElem hi⟩
    · rw [List.getElem?_append_right (by simpa using Nat.le_of_not_lt hi)] at hs
      obtain ⟨z, e⟩ := List.getElem?_eq_some_iff.mp hs
      rw [List.getElem_replicate] at e
      exact .inl e.symm
  refine ⟨Same.refl _, Same.refl _, by simp [hl], fun i s hs => ?_, fun i j p B B' _ hi _ _ _ => ?_, .nil fun i A h => by rcases cls i _ h with e | ⟨A, e, _⟩ <;> cases e⟩
  · rcases cls i s hs with rfl | ⟨A, rfl, hA⟩
    · trivial
    · obtain ⟨v, h1, h2⟩ := mW h i A hA
      have hi : i < vs.length := (List.getElem?_eq_some_iff.mp h1).1
      exact ⟨v, by rw [List.getElem?_append_left (by simpa using hi), List.getElem?_map, h1]; rfl, h2⟩
  · rcases cls i _ hi with e | ⟨A, e, _⟩ <;> cases e
section
variable {P : Program} {w : World} {K : PySem.W.Frag} {mg : Str → Option Value} {base : Heap}
def spL (K : PySem.W.Frag) : Sp := fun vs H Q _ => ∃ (a : Addr) (ns : List Int), vs = [.ref a] ∧ SqL K H a (ns.map V.int) ∧ ns.length ≤ 63 ∧ ∀ H', Q (.bl true) H'
theorem mL {H : Hp} : ∀ ns : List Int, DpAll K H (ns.map V.int) (ns.map PyData.int)
  | [] => .nil
  | n :: ns => .cons (.int n) (mL ns)
end
end Kj

namespace Kj
open PySem L2
def cf (P : Program) (w : World) (K : PySem.W.Frag) (mg : Str → Option Value) (base : Heap) (name : Str) (k : Nat) (ps : List Str) (sp : Sp) : Prop :=
  ∃ f fd, mg name = some (.ref f) ∧ PySem.W.keepIn K (.ref f) = true ∧ Binds K fd ps [] ∧ FnOk P w K mg base CX0 k f fd ps sp
theorem bT {X : Cx} {k : Nat} {ps : List Str} {sp : Sp} {x : Str} {p pos : Pos} {e : Expr} {es : List Expr} {t : TA} (D : cf X.prog X.w X.K X.mg X.base x k ps sp) (hr : Room k X.A) (hg : Gl X x)
    (ha : PA X (e :: es) t) (hdb : (x == ("__debug__" : Str)) = false := by decide) (he : starEach (e :: es) X.env = (false, eval e X.env) :: starEach es X.env := by rfl) (hpl : (backTo pos (starEach es X.env)).any (·.1) = false := by rfl) :
    PE X (.Call (.Name x p) (e :: es) [] pos) (tCall sp [] E0 t) := by
  obtain ⟨f, fd, h1, h2, h3, h4⟩ := D
  exact pe_call h4 hr hg h1 h2 h3 .nil pass0 ha hdb he hpl
def aEx {α : Type} (P : α → Prop) (g : α → Abs) : Abs := ⟨fun v H => ∃ x, P x ∧ (g x).p v H, fun v H H' s ⟨x, h, q⟩ => ⟨x, h, (g x).mono _ _ _ s q⟩⟩
end Kj
namespace Kj
open PySem L2 PyProof.Rows
def HE (_ j : Int) : Prop := j ≠ 0 ∧ j.natAbs.log2 < 9000
theorem qb {α : Type} {xs : List α} {i : Int} (h0 : 0 ≤ i) (h1 : i < xs.length) : atI xs i = some (xs[i.toNat]'(by omega)) := by
  unfold atI ixN
  rw [if_pos h0, if_pos h1]
  show xs[i.toNat]? = _
  rw [List.getElem?_eq_getElem]
theorem BM {α β : Type} {xs : List α} {g : α → β} {i : Int} (h0 : 0 ≤ i) (h1 : i < xs.length) : atI (xs.map g) i = some (g (xs[i.toNat]'(by omega))) := by
  rw [qb h0 (by simpa using h1)]
  simp
theorem t4 {α β : Type} (g : α → β) (xs : List α) (lo hi : Option Int) : iD (xs.map g) lo hi = (iD xs lo hi).map g := by
  unfold iD
  rw [List.length_map, List.map_take, List.map_drop]
theorem rn (n d : Nat) {v : Int} (h : 0 ≤ v) : HT.sIx n d (some v) = min v.toNat n := by
  show (if v < 0 then (v + (n : Int)).toNat else min v.toNat n) = _
  rw [if_neg (by omega)]
theorem e8 {α : Type} (xs : List α) {n : Int} (h : 0 ≤ n) : iD xs none (some n) = xs.take n.toNat := by
  unfold iD
  rw [rn _ _ h, HT.sIx_none, List.drop_zero, Nat.sub_zero]
  by_cases h2 : n.toNat ≤ xs.length
  · rw [Nat.min_eq_left h2]
  · rw [Nat.min_eq_right (by omega), List.take_of_length_le (Nat.le_refl _), List.take_of_length_le (by omega)]
theorem lf {α : Type} (xs : List α) {n : Int} (h : 0 ≤ n) : iD xs (some n) none = xs.drop n.toNat := by
  unfold iD
  rw [rn _ _ h, HT.sIx_none]
  by_cases h2 : n.toNat ≤ xs.length
  · rw [Nat.min_eq_left h2, List.take_of_length_le (by simp)]
  · rw [Nat.min_eq_right (by omega), List.take_of_length_le (by simp), List.drop_eq_nil_of_le (Nat.le_refl _), List.drop_eq_nil_of_le (by omega)]
end Kj

namespace Kj
open PySem L2
abbrev FnP (K : PySem.W.Frag) (x qual : Str) (st : Stmt) (f : Addr) (fd : FuncData) : Prop := FunD K x qual (defArgs st) (defBody st) (defScope st) [] [] f fd
section
variable {P : Program} {w : World} {K : PySem.W.Frag} {mg : Str → Option Value} {base : Heap}
theorem Db {x qual : Str} {st : Stmt} {f : Addr} {fd : FuncData} {N ps : List Str} {k : Nat} {S : Spec} (F : FnP K x qual st f fd) (Sc : FnScope N ps (defScope st)) (len : ∀ As R, S As R → As.length = ps.length)
    (body : ∀ (cdv : Value) (A : Around) (outer : List Env) (s : Shared) (H : Hp) (E : XK), Room k (A.deeper (PyProof.Rows.envOfC qual (defScope st) s.heap.objs.size f cdv)) → ∀ As R, S As R →
      ∃ t, PSs (cxOf CX0 P w K mg base N qual (defScope st) f cdv A outer s H E).nox (defBody st) t ∧ ∀ H0, DS C0 H0 (As.map Slot.dat ++ List.replicate (N.length - As.length) Slot.no) t (fun _ => False) R) : FnOk P w K mg base CX0 (k + 1) f fd ps (spF S) := by
  refine F.ok Sc (fun vs H Q E h => ?_) (fun cdv A outer s H vs Q E hr h => ?_)
  · obtain ⟨As, R, h1, h2, _⟩ := h
    rw [← h2.length]; exact len As R h1
  · obtain ⟨As, R, h1, h2, h3⟩ := h
    obtain ⟨t, p, d⟩ := body cdv A outer s H E hr As R h1
    refine ⟨t, p.nox, d H _ H H _ ?_ (fun _ _ _ _ n _ _ => n.elim) (fun v H' s _ r => h3 v H' s r) (KX.no fun _ _ _ _ z => z)⟩
    have e := gW (n := N.length - vs.length) h2
    unfold L2.start
    rw [h2.length]
    exact e
theorem Au {x qual : Str} {st : Stmt} {f : Addr} {fd : FuncData} {N : List Str} {p : Str} {k : Nat} (F : FnP K x qual st f fd) (Sc : FnScope N [p] (defScope st))
    (body : ∀ (cdv : Value) (A : Around) (outer : List Env) (s : Shared) (H : Hp) (E : XK), Room k (A.deeper (PyProof.Rows.envOfC qual (defScope st) s.heap.objs.size f cdv)) → ∀ ns : List Int, ns.length ≤ 63 →
      ∃ t, PSs (cxOf CX0 P w K mg base N qual (defScope st) f cdv A outer s H E).nox (defBody st) t ∧ ∀ H0, DS C0 H0 (Slot.dat (aD K (.list (ns.map .int))) :: List.replicate (N.length - 1) Slot.no) t (fun _ => False) (aD K (.bool true))) : FnOk P w K mg base CX0 (k + 1) f fd [p] (spL K) := by
  refine F.ok Sc (fun vs H Q E h => ?_) (fun cdv A outer s H vs Q E hr h => ?_)
  · obtain ⟨a, ns, rfl, _⟩ := h
    rfl
  · obtain ⟨a, ns, rfl, h1, h2, h3⟩ := h
    obtain ⟨t, p, d⟩ := body cdv A outer s H E hr ns h2
    refine ⟨t, p.nox, d H _ H H _ ?_ (fun _ _ _ _ n _ _ => n.elim) (fun v H' s _ r => by cases r; exact h3 H') (KX.no fun _ _ _ _ z => z)⟩
    exact gW (As := [aD K (.list (ns.map .int))]) (vs := [.ref a]) (n := N.length - 1) (.cons (Dp.lst h1 (mL ns)) .nil)
theorem fi {x qual name : Str} {st : Stmt} {f : Addr} {fd : FuncData} {k : Nat} {ps : List Str} {sp : Sp} (F : FnP K x qual st f fd) (hg : mg name = some (.ref f)) (G : FnOk P w K mg base CX0 k f fd ps sp)
    (h : ∀ (kV doc pm : Value) (an : Option Addr) (cdv ct : Value) (us : List Value), us.length = ps.length → bindArgs (PySem.W.fnOf x qual (defArgs st) (defBody st) (defScope st) .none kV doc pm an cdv ct) ⟨us, []⟩ = pure (ps.zip us)) : cf P w K mg base name k ps sp :=
  ⟨f, fd, hg, F.kp, F.bindsN h, G⟩
end
section
variable {C : WZ} {H0 : Hp} {ρ : List Slot} {K : PySem.W.Frag} {f fa fb fc : Bool} {ta tb tc te : TE} {a b c : Bool} {N N1 : List Slot → Prop} {R : Abs} {t u w : TS}
end
end Kj

namespace Kj
open PySem L2
def xNo (C : Addr) : XA := fun cls d _ => cls = .ref C ∧ d = none
inductive Out where
  | ret (R : Abs)
  | exc (X : XA)
abbrev jo := List Abs → Out → Prop
def spX (S : jo) : Sp := fun vs H Q E => ∃ As O, S As O ∧ AllP As vs H ∧ match O with
  | .ret R => ∀ v H', Same H H' → R.p v (mns H' H) → Q v H'
  | .exc X => ∀ cls d H', Same H H' → X cls d H' → E cls d H'
theorem FnOk.calm {P : Program} {w : World} {K : PySem.W.Frag} {mg : Str → Option Value} {base : Heap} {k : Nat} {f : Addr} {fd : FuncData} {ps : List Str} {S : jo} (F : FnOk P w K mg base (L2.CX P w) k f fd ps (spX S)) :
    FnOk P w K mg base CX0 k f fd ps (spF fun As R => S As (.ret R)) := by
  refine ⟨fun vs H Q E h => ?_, fun A outer s H args us vs Q E hr he hb hv hs => ?_⟩
  · obtain ⟨As, R, h1, h2, h3⟩ := h
    exact F.len vs H Q E ⟨As, .ret R, h1, h2, h3⟩
  · obtain ⟨As, R, h1, h2, h3⟩ := hs
    refine codeAny_mono (F.run A outer s H args us vs Q E0 hr he hb hv ⟨As, .ret R, h1, h2, h3⟩) fun r s' q => ?_
    cases r with
    | ok fl => cases fl <;> exact q
    | error e =>
      obtain ⟨_, _, _, _, _, _, _, _, _, _, _, _, z⟩ := q
      exact z.elim
def RE (W : WX) (H0 : Hp) (ρ : List Slot) (t : TE) (X : XA) : Prop :=
  ∀ (σ : St) (H Hr : Hp) (Q : VK), EnvOk H0 σ ρ H Hr → (∀ cls d H' Hr', Ext H Hr H' Hr' → X cls d H' → W cls d σ H') → t σ H Q
section
variable {W : WX} {H0 : Hp} {ρ : List Slot} {K : PySem.W.Frag} {f fa fb : Bool} {ta tb te : TE} {a b : Bool} {N N1 : List Slot → Prop} {R : Abs} {t u w : TS} {Z : List Slot → XA} {X : XA}
theorem zp {S : jo} {As : List Abs} {R : Abs} {t : TA} {Ex : St → XK} {ρ' : List Slot} (bo : Bo H0 ρ ρ') (ha : DA H0 ρ' t false As) (hs : S As (.ret R)) : DE H0 ρ (tCallS (spX S) Ex t) f R := fun σ H Hr Q E k => by
  obtain ⟨Hr', s, E'⟩ := bo σ H Hr E
  refine ha σ H Hr' _ E' fun vs H1 Hr1 x1 a1 => ?_
  refine ⟨As, .ret R, hs, a1.mono x1.s, fun v H2 s2 r2 => k v H2 _ (Ext.call E.sub x1.h s2) ?_⟩
  have r3 := R.mono _ _ _ (iQ E.base E.sub x1.h) r2
  cases f
  · exact R.mono _ _ _ jg r3
  · exact r3
theorem xI {S : jo} {As : List Abs} {t : TA} {ρ' : List Slot} (bo : Bo H0 ρ ρ') (ha : DA H0 ρ' t false As) (hs : S As (.exc X)) : RE W H0 ρ (tCallS (spX S) (WE W) t) X := fun σ H Hr Q E k => by
  obtain ⟨Hr', s, E'⟩ := bo σ H Hr E
  refine ha σ H Hr' _ E' fun vs H1 Hr1 x1 a1 => ?_
  exact ⟨As, .exc X, hs, a1.mono x1.s, fun cls d H2 s2 r2 => k cls d H2 _ (Ext.call E.sub x1.h s2) r2⟩
def HJ (K : PySem.W.Frag) (Wout : WX) (l : List (Value × (Addr → Value → Option Addr → TS))) (tb : WX → TS) : TS := fun D σ H => tb (wMany K Wout D l) D σ H
inductive Hnd (K : PySem.W.Frag) (C : WZ) (H0 : Hp) (N : List Slot → Prop) (R : Abs) : List (Value × (Addr → Value → Option Addr → TS)) → List Slot → Value → Option Addr → Prop
  | here {c : Value} {ts : Addr → Value → Option Addr → TS} {l : List (Value × (Addr → Value → Option Addr → TS))} {ρ : List Slot} {cls : Value} {d : Option Addr} : PySem.W.exmOne K cls c = some true → (∀ a, DS C H0 ρ (ts a cls d) N R) → Hnd K C H0 N R ((c, ts) :: l) ρ cls d
  | next {c : Value} {ts : Addr → Value → Option Addr → TS} {l : List (Value × (Addr → Value → Option Addr → TS))} {ρ : List Slot} {cls : Value} {d : Option Addr} : PySem.W.exmOne K cls c = some false → Hnd K C H0 N R l ρ cls d → Hnd K C H0 N R ((c, ts) :: l) ρ cls d
end
def aNo : Abs := ⟨fun _ _ => False, fun _ _ _ _ h => h⟩
abbrev Aa : Out → Abs | .ret R => R | .exc _ => aNo
abbrev Fe : Out → List Slot → XA | .ret _ => fun _ _ _ _ => False | .exc X => fun _ => X
section
variable {P : Program} {w : World} {K : PySem.W.Frag} {mg : Str → Option Value} {base : Heap}
theorem Da {x qual : Str} {st : Stmt} {f : Addr} {fd : FuncData} {N ps : List Str} {k : Nat} {S : jo} (F : FnP K x qual st f fd) (Sc : FnScope N ps (defScope st)) (len : ∀ As O, S As O → As.length = ps.length)
    (body : ∀ (cdv : Value) (A : Around) (outer : List Env) (s : Shared) (H : Hp) (E : XK), Room k (A.deeper (PyProof.Rows.envOfC qual (defScope st) s.heap.objs.size f cdv)) →
      ∃ t, PSs (cxOf (L2.CX P w) P w K mg base N qual (defScope st) f cdv A outer s H E) (defBody st) t ∧ ∀ H0 As O, S As O → DS ⟨fun cls d _ H => E cls d H, Fe O⟩ H0 (As.map Slot.dat ++ List.replicate (N.length - As.length) Slot.no) t (fun _ => ∀ G, (Aa O).p .non G) (Aa O)) : FnOk P w K mg base (L2.CX P w) (k + 1) f fd ps (spX S) := by
  refine F.ok Sc (fun vs H Q E h => ?_) (fun cdv A outer s H vs Q E hr h => ?_)
  · obtain ⟨As, O, h1, h2, _⟩ := h
    rw [← h2.length]; exact len As O h1
  · obtain ⟨As, O, h1, h2, h3⟩ := h
    obtain ⟨t, p, d⟩ := body cdv A outer s H E hr
    have e := gW (n := N.length - vs.length) h2
    refine ⟨t, p, d H As O h1 _ H H _ ?_ (fun _ _ H' _ n E' _ => ?_) (fun v H' s _ r => ?_) (fun ρ' σ' H' Hr' cls dd z E' s => ?_)⟩
    · unfold L2.start
      rw [h2.length]
      exact e
    · cases O with
      | ret R => exact h3 .non H' E'.base (n _)
      | exc X => exact (n (fun _ => none)).elim
    · cases O with
      | ret R => exact h3 v H' s r
      | exc X => exact r.elim
    · cases O with
      | ret R => exact z.elim
      | exc X => exact h3 cls dd H' E'.base z
def nJ (P : Program) (w : World) (K : PySem.W.Frag) (mg : Str → Option Value) (base : Heap) (name : Str) (k : Nat) (ps : List Str) (sp : Sp) : Prop :=
  ∃ f fd, mg name = some (.ref f) ∧ PySem.W.keepIn K (.ref f) = true ∧ Binds K fd ps [] ∧ FnOk P w K mg base (L2.CX P w) k f fd ps sp
theorem nJ.calm {name : Str} {k : Nat} {ps : List Str} {S : jo} (D : nJ P w K mg base name k ps (spX S)) : cf P w K mg base name k ps (spF fun As R => S As (.ret R)) := by
  obtain ⟨f, fd, h1, h2, h3, h4⟩ := D
  exact ⟨f, fd, h1, h2, h3, FnOk.calm h4⟩
theorem D2 {x qual name : Str} {st : Stmt} {f : Addr} {fd : FuncData} {k : Nat} {ps : List Str} {sp : Sp} (F : FnP K x qual st f fd) (hg : mg name = some (.ref f)) (G : FnOk P w K mg base (L2.CX P w) k f fd ps sp)
    (h : ∀ (kV doc pm : Value) (an : Option Addr) (cdv ct : Value) (us : List Value), us.length = ps.length → bindArgs (PySem.W.fnOf x qual (defArgs st) (defBody st) (defScope st) .none kV doc pm an cdv ct) ⟨us, []⟩ = pure (ps.zip us)) : nJ P w K mg base name k ps sp :=
  ⟨f, fd, hg, F.kp, F.bindsN h, G⟩
end
theorem xU {X : Cx} {W : WX} {k : Nat} {ps : List Str} {sp : Sp} {x : Str} {p pos : Pos} {e : Expr} {es : List Expr} {t : TA} (D : nJ X.prog X.w X.K X.mg X.base x k ps sp) (hr : Room k X.A) (tk : Takes X W) (hg : Gl X x)
    (ha : PA X (e :: es) t) (hdb : (x == ("__debug__" : Str)) = false := by decide) (he : starEach (e :: es) X.env = (false, eval e X.env) :: starEach es X.env := by rfl) (hpl : (backTo pos (starEach es X.env)).any (·.1) = false := by rfl) :
    PE X (.Call (.Name x p) (e :: es) [] pos) (tCallS sp (WE W) t) := by
  obtain ⟨f, fd, h1, h2, h3, h4⟩ := D
  exact pe_callS h4 hr hg h1 h2 h3 (fun σ => passAt tk σ) ha hdb he hpl
section
variable {X : Cx} {pn : List (Addr × Obj)} {xe : Value → Shared → Prop}
end
structure ExcT (K : PySem.W.Frag) (mg : Str → Option Value) (x : Str) (C : Addr) : Prop where
  g : mg x = some (.ref C)
  e : PySem.W.excIn K C He.veBase "ValueError.__new__" = true
  k : PySem.W.keepIn K (.ref C) = true
  b : PySem.W.subIn K (.ref C) (.type "BaseException") = some true
  t : PySem.W.typeIn K (.ref C) = some (.type "type")
theorem wy {X : Cx} {W : WX} {x m : Str} {j : Nat} {p p2 pos pos2 : Pos} {C : Addr} (T : ExcT X.K X.mg x C) (hc : X.calm = true) (tk : Takes X W) (hg : Gl X x) (hdb : (x == ("__debug__" : Str)) = false := by decide) :
    PS X (.Raise (some (.Call (.Name x p) [.Constant (.str m) j p2] [] pos)) none pos2) (fun _ σ H => W (.ref C) none σ H) :=
  ps_raise (t := fun _ H Q => Q (.ref C) none H) hc tk (pmk_own PySem.F.excBase_ValueError T.e T.g T.k (raises_own T.b T.t) hg hdb)
end Kj

namespace Kj
open PySem L2
def Wk (H0 : Hp) (J : It) (n : Nat) (f : Bool) (As : Nat → Abs) (Hr : Hp) : Prop :=
  ∀ H Hr', Same Hr Hr' → Same Hr' H → Same H0 H →
    (∀ i, i < n → J.go i H ∧ ∀ x H', J.yld i H x H' → ∃ Hr'', Ext H Hr' H' Hr'' ∧ (As i).p x (hp f Hr'' H0)) ∧ J.stop n H
def DW (H0 : Hp) (ρ : List Slot) (wi : TI) (n : Nat) (f : Bool) (As : Nat → Abs) : Prop :=
  ∀ (σ : St) (H Hr : Hp) (R : It → Hp → Prop), EnvOk H0 σ ρ H Hr → (∀ J H' Hr', Ext H Hr H' Hr' → Wk H0 J n f As Hr' → R J H') → wi σ H R
def DG (H0 : Hp) (ρ : List Slot) (g : TG) (f : Bool) (A : Abs) (ρ' : List Slot) (vs : List Nat) : Prop :=
  ∀ (σ : St) (H Hr : Hp) (v : V) (Q : St → Hp → Prop), EnvOk H0 σ ρ H Hr → A.p v (hp f Hr H0) → (∀ σ', EnvOk H0 σ' ρ' H Hr → wipe σ' vs = wipe σ vs → Q σ' H) → g v σ H Q
theorem kg {i : Nat} {x : Option V} : ∀ {vs : List Nat} {σ : St}, i ∈ vs → wipe (σ.set i x) vs = wipe σ vs := fun {vs σ} h => by
  apply List.ext_getElem?
  intro j
  by_cases hj : j ∈ vs
  · have a : ∀ τ : St, τ.length = σ.length → (wipe τ vs)[j]? = if j < σ.length then some none else none := fun τ hτ => by
      clear h
      induction vs with
      | nil => cases hj
      | cons v vs ih =>
        unfold wipe
        by_cases e : v = j
        · subst e
          by_cases hl : v < σ.length
          · rw [List.getElem?_set_self (by rw [wipe_length, hτ]; exact hl), if_pos hl]
          · rw [if_neg hl, List.getElem?_eq_none (by rw [List.length_set, wipe_length, hτ]; omega)]
        · rw [List.getElem?_set_ne e]
          exact ih (by rcases List.mem_cons.mp hj with h | h; exact absurd h.symm e; exact h)
    rw [a _ (by simp), a _ rfl]
  · rw [wipe_out hj, wipe_out hj, List.getElem?_set_ne (fun e => hj (by rw [← e]; exact h))]
section
variable {C : WZ} {H0 : Hp} {ρ : List Slot} {K : PySem.W.Frag} {f fa fb fc : Bool} {ta tb tc te : TE} {a b c : Bool} {N N1 : List Slot → Prop} {R : Abs} {t u w : TS}
theorem A5 {ds : List PyData} {tl : TE} (h : DE H0 ρ tl f (aD K (.list ds))) : DW H0 ρ (iList K tl) ds.length f (fun i => aD K (ds.getD i .none)) := fun σ H Hr R E k => by
  refine h σ H Hr _ E fun v H1 Hr1 x1 a1 => ?_
  cases a1 with
  | @lst a xs _ hq hA =>
    refine ⟨a, rfl, ⟨xs, ((bD f).trans x1.s).seq hq⟩, k _ H1 Hr1 x1 fun G Gr s1 s2 s3 => ?_⟩
    have q : SqL K G a xs := ((bD f).trans (s1.trans s2)).seq hq
    have hl := dD hA
    refine ⟨fun i hi => ⟨⟨xs, xs[i]'(by omega), q, List.getElem?_eq_getElem _⟩, ?_⟩, ⟨xs, q, by omega⟩⟩
    rintro x G' ⟨rfl, hx⟩
    obtain ⟨d, e1, e2⟩ := hU hA (hx xs q)
    refine ⟨Gr, Ext.refl s2, ?_⟩
    show Dp K _ x (ds.getD i .none)
    rw [List.getD_eq_getElem?_getD, e1]
    exact dE (cK f H0 s1) _ _ e2
theorem Dw {z : Str} (h : DE H0 ρ te fa (aD K (.str z))) : DW H0 ρ (iStr te) z.cps.size f (fun i => aD K (.str ⟨#[z.cps.getD i 0]⟩)) := fun σ H Hr R E k => by
  refine h σ H Hr _ E fun v H1 Hr1 x1 a1 => ?_
  cases a1
  refine ⟨z, rfl, k _ H1 Hr1 x1 fun G Gr s1 s2 s3 => ⟨fun i hi => ⟨hi, ?_⟩, Nat.le_refl _⟩⟩
  rintro x G' ⟨rfl, c, hc, rfl⟩
  refine ⟨Gr, Ext.refl s2, ?_⟩
  have e : z.cps.getD i 0 = c := by
    rw [Array.getD_eq_getD_getElem?, hc]; rfl
  show Dp K _ (.str ⟨#[c]⟩) (.str ⟨#[z.cps.getD i 0]⟩)
  rw [e]
  exact .str _
theorem AZ {j : Int} (h : DE H0 ρ te fa (aD K (.int j))) (hb1 : -(2 ^ 62) ≤ j) (hb2 : j < 2 ^ 62) : DW H0 ρ (iRng1 (tCons te tNil)) j.toNat f (fun i => aD K (.int i)) := fun σ H Hr R E k => by
  refine h σ H Hr _ E fun v H1 Hr1 x1 a1 => ?_
  cases a1
  refine ⟨j, rfl, hb1, hb2, k _ H1 Hr1 x1 fun G Gr s1 s2 s3 => ⟨fun i hi => ⟨hi, ?_⟩, Nat.le_refl _⟩⟩
  rintro x G' ⟨rfl, rfl⟩
  refine ⟨Gr, Ext.refl s2, ?_⟩
  rw [Int.zero_add]
  exact .int _
theorem AY {l j : Int} (h : DE H0 ρ ta fa (aD K (.int l))) (h' : DE H0 ρ tb fb (aD K (.int j))) (hb : -(2 ^ 62) ≤ l ∧ l < 2 ^ 62 ∧ -(2 ^ 62) ≤ j ∧ j < 2 ^ 62) : DW H0 ρ (iRng2 (tCons ta (tCons tb tNil))) (j - l).toNat f (fun i => aD K (.int (l + i))) := fun σ H Hr R E k => by
  refine h σ H Hr _ E fun v H1 Hr1 x1 a1 => h' σ H1 Hr1 _ (E.ext x1) fun v2 H2 Hr2 x2 a2 => ?_
  cases a1; cases a2
  refine ⟨l, j, rfl, hb, k _ H2 Hr2 (x1.trans x2) fun G Gr s1 s2 s3 => ⟨fun i hi => ⟨hi, ?_⟩, Nat.le_refl _⟩⟩
  rintro x G' ⟨rfl, rfl⟩
  exact ⟨Gr, Ext.refl s2, .int _⟩
theorem Du {ds es : List PyData} (h : DE H0 ρ ta f (aD K (.list ds))) (h' : DE H0 ρ tb f (aD K (.list es))) : DW H0 ρ (iZip K (tCons ta (tCons tb tNil))) (min ds.length es.length) f (fun i => aD K (.tuple [ds.getD i .none, es.getD i .none])) := fun σ H Hr R E k => by
  refine h σ H Hr _ E fun v H1 Hr1 x1 a1 => h' σ H1 Hr1 _ (E.ext x1) fun v2 H2 Hr2 x2 a2 => ?_
  cases a1 with
  | @lst a xs _ hq hA =>
    cases a2 with
    | @lst b ys _ hq2 hB =>
      have hA2 := dpa_mono (cK f H0 x2.r) _ _ hA
      refine ⟨a, b, xs, ys, rfl, ((bD f).trans (x2.r.trans x2.s)).seq hq, ((bD f).trans x2.s).seq hq2, k _ H2 Hr2 (x1.trans x2) fun G Gr s1 s2 s3 => ?_⟩
      have q1 : SqL K G a xs := ((bD f).trans (x2.r.trans (s1.trans s2))).seq hq
      have q2 : SqL K G b ys := ((bD f).trans (s1.trans s2)).seq hq2
      have l1 := dD hA
      have l2 := dD hB
      refine ⟨fun i hi => ⟨⟨xs, ys, xs[i]'(by omega), ys[i]'(by omega), q1, q2, List.getElem?_eq_getElem _, List.getElem?_eq_getElem _⟩, ?_⟩, ⟨xs, ys, q1, q2, by omega⟩⟩
      rintro v G' ⟨T, x, y, rfl, hT, rfl, hx, hy⟩
      obtain ⟨d, e1, e2⟩ := hU hA2 (hx xs q1)
      obtain ⟨e, e3, e4⟩ := hU hB (hy ys q2)
      have xt : Ext G Gr (upd G T (.tup [x, y])) (upd Gr T (.tup [x, y])) := Ext.lay s2 hT
      refine ⟨_, xt, ?_⟩
      show Dp K _ (.ref T) (.tuple [ds.getD i .none, es.getD i .none])
      rw [List.getD_eq_getElem?_getD, List.getD_eq_getElem?_getD, e1, e3]
      refine .tup (SqT.of (ie f s3 hT)) (.cons (dE (cK f H0 (s1.trans xt.r)) _ _ e2) (.cons (dE (cK f H0 (s1.trans xt.r)) _ _ e4) .nil))
theorem A6 {ds : List PyData} (h : DE H0 ρ ta f (aD K (.list ds))) : DW H0 ρ (iEnum K (tCons ta tNil)) ds.length f (fun i => aD K (.tuple [.int i, ds.getD i .none])) := fun σ H Hr R E k => by
  refine h σ H Hr _ E fun v H1 Hr1 x1 a1 => ?_
  cases a1 with
  | @lst a xs _ hq hA =>
    refine ⟨a, xs, rfl, ((bD f).trans x1.s).seq hq, k _ H1 Hr1 x1 fun G Gr s1 s2 s3 => ?_⟩
    have q1 : SqL K G a xs := ((bD f).trans (s1.trans s2)).seq hq
    have l1 := dD hA
    refine ⟨fun i hi => ⟨⟨xs, xs[i]'(by omega), q1, List.getElem?_eq_getElem _⟩, ?_⟩, ⟨xs, q1, by omega⟩⟩
    rintro v G' ⟨T, x, rfl, hT, rfl, hx⟩
    obtain ⟨d, e1, e2⟩ := hU hA (hx xs q1)
    have xt : Ext G Gr (upd G T (.tup [.int (i : Nat), x])) (upd Gr T (.tup [.int (i : Nat), x])) := Ext.lay s2 hT
    refine ⟨_, xt, ?_⟩
    show Dp K _ (.ref T) (.tuple [.int i, ds.getD i .none])
    rw [List.getD_eq_getElem?_getD, e1]
    exact .tup (SqT.of (ie f s3 hT)) (.cons (.int _) (.cons (dE (cK f H0 (s1.trans xt.r)) _ _ e2) .nil))
theorem cL {i : Nat} {A : Abs} {vs : List Nat} (hi : Nat.blt i ρ.length = true := by rfl) (hv : vs.contains i = true := by rfl) : DG H0 ρ (gName i) f A (ρ.set i (sl f A)) vs := fun σ H Hr v Q E h k =>
  k _ (E.set (kB hi) h) (kg (by simpa using hv))
theorem Bn {i j : Nat} {d e : PyData} {vs : List Nat} (hi : Nat.blt i ρ.length = true := by rfl) (hj : Nat.blt j ρ.length = true := by rfl) (hv : vs.contains i = true := by rfl) (hw : vs.contains j = true := by rfl) :
    DG H0 ρ (gTup K 2 (gCons (gName i) (gCons (gName j) gNil))) f (aD K (.tuple [d, e])) ((ρ.set i (sl f (aD K d))).set j (sl f (aD K e))) vs := fun σ H Hr v Q E h k => by
  cases h with
  | @tup a xs _ hs hA =>
    cases hA with
    | cons h1 hA =>
      cases hA with
      | cons h2 hA =>
        cases hA
        refine ⟨a, _, rfl, l4 ((bD f).trans E.sub) hs, rfl, _, _, rfl, _, _, rfl, rfl, k _ ((E.set (kB hi) h1).set (by rw [List.length_set]; exact kB hj) h2) ?_⟩
        rw [kg (by simpa using hw), kg (by simpa using hv)]
def qO (ρ : List Slot) : Bool := ρ.all fun s => match s with | .own _ => false | _ => true
def jc (ρ : List Slot) : List Nat → List Slot
  | [] => ρ
  | v :: vs => (jc ρ vs).set v .no
def g9 (ρ : List Slot) : Bool := ρ.all fun s => match s with | .reg _ => false | _ => true
theorem iw {ρ : List Slot} (h : g9 ρ = true) : ∀ (i : Nat) (A : Abs), ρ[i]? ≠ some (.reg A) := fun i A e => by
  unfold g9 at h
  rw [List.all_eq_true] at h
  exact Bool.noConfusion (h _ (List.mem_of_getElem? e))
theorem EnvOk.unset {σ : St} {H Hr : Hp} (E : EnvOk H0 σ ρ H Hr) (i : Nat) : EnvOk H0 (σ.set i none) (ρ.set i .no) H Hr := by
  have old : ∀ (j : Nat) (s : Slot), (ρ.set i .no)[j]? = some s → s = .no ∨ (ρ[j]? = some s ∧ j ≠ i) := fun j s h => by
    by_cases e : i = j
    · subst e
      by_cases hl : i < ρ.length
      · rw [List.getElem?_set_self hl] at h; exact .inl (Option.some.inj h).symm
      · rw [List.getElem?_eq_none (by rw [List.length_set]; omega)] at h; cases h
    · rw [List.getElem?_set_ne e] at h; exact .inr ⟨h, Ne.symm e⟩
  refine ⟨E.base, E.sub, by simp [E.len], fun j s hs => ?_, fun j k p B B' hjk hj hk ej ek => ?_, E.reg.set1 (fun j n => List.getElem?_set_ne (Ne.symm n)) (fun A z => by cases z) (fun B z => by cases z) fun a o h1 h2 h3 _ => ⟨h1, h2, h3⟩⟩
  · rcases old j s hs with rfl | ⟨h, hne⟩
    · trivial
    · have q := E.slot j s h
      have e : (σ.set i none)[j]? = σ[j]? := List.getElem?_set_ne (Ne.symm hne)
      cases s with
      | no => trivial
      | reg A => trivial
      | dat A => unfold im at q ⊢; rw [e]; exact q
      | new A => unfold im at q ⊢; rw [e]; exact q
      | own B => unfold im at q ⊢; rw [e]; exact q
  · rcases old j _ hj with h | ⟨h1, n1⟩
    · cases h
    · rcases old k _ hk with h | ⟨h2, n2⟩
      · cases h
      · rw [List.getElem?_set_ne (Ne.symm n1)] at ej
        rw [List.getElem?_set_ne (Ne.symm n2)] at ek
        exact E.dis j k p B B' hjk h1 h2 ej ek
theorem EnvOk.wipe {σ : St} {H Hr : Hp} (E : EnvOk H0 σ ρ H Hr) : ∀ vs : List Nat, EnvOk H0 (L2.wipe σ vs) (jc ρ vs) H Hr
  | [] => E
  | v :: vs => (E.wipe vs).unset v
theorem wI {i : Nat} {s : Slot} (h : g9 ρ = true) (hs : g9 [s] = true) : g9 (ρ.set i s) = true := by
  unfold g9 at *
  rw [List.all_eq_true] at *
  intro x hx
  rcases List.mem_or_eq_of_mem_set hx with h1 | h1
  · exact h x h1
  · subst h1; exact hs x (by simp)
theorem jX (h : g9 ρ = true) : ∀ vs : List Nat, g9 (jc ρ vs) = true
  | [] => h
  | v :: vs => wI (jX h vs) rfl
theorem EnvOk.out {σ : St} {H Hr : Hp} (E : EnvOk H0 σ ρ H Hr) (hn : qO ρ = true) (nr : g9 ρ = true) {D : Addr} {o : HO} (h0 : H0 D = none) (hr : Hr D = none) : EnvOk H0 σ ρ (upd H D o) Hr := by
  have no : ∀ (i : Nat) (B : AbsO), ρ[i]? ≠ some (.own B) := fun i B h => by
    unfold qO at hn
    rw [List.all_eq_true] at hn
    exact Bool.noConfusion (hn _ (List.mem_of_getElem? h))
  refine ⟨fun a u e => ?_, fun a u e => ?_, E.len, fun i s hs => ?_, fun j k p B B' _ hj _ _ _ => absurd hj (no j B), .nil (iw nr)⟩
  · rw [upd_ne (ne_of_none e h0)]; exact E.base _ _ e
  · rw [upd_ne (ne_of_none e hr)]; exact E.sub _ _ e
  · have q := E.slot i s hs
    cases s with
    | no => trivial
    | dat A => exact q
    | new A => exact q
    | reg A => trivial
    | own B => exact absurd hs (no i B)
def made (e : Nat → Option PyData) : Nat → List PyData
  | 0 => []
  | n + 1 => made e n ++ (e n).toList
theorem tA (e : Nat → Option PyData) : ∀ n, (made e n).length ≤ n
  | 0 => Nat.le_refl _
  | n + 1 => by
    unfold made
    rw [List.length_append]
    have := tA e n
    have : (e n).toList.length ≤ 1 := by cases e n <;> simp
    omega
theorem yU : DT K H0 ρ tYes true := fun σ H Hr Q E k => k H Hr (Ext.refl E.sub)
theorem tD (g : Nat → PyData) : ∀ n, made (fun k => some (g k)) n = (List.range n).map g
  | 0 => rfl
  | n + 1 => by
    unfold made
    rw [tD g n, List.range_succ, List.map_append]
    rfl
end
end Kj

namespace Kj
section
open PySem MeetsSeq PySem.AutoSeq1
theorem w5 {l b : Addr} {xs ys : Array Value} {n m : Nat} {u v : Array (Option Value)} (hz : xs.size + ys.size ≤ sizeLine) :
    Meets (Builtin.«list.__add__» ⟨[.ref l, .ref b], []⟩) fun _ R s => s.heap.get? l = some ⟨.type "list", none, .seq xs n, u⟩ ∧ s.heap.get? b = some ⟨.type "list", none, .seq ys m, v⟩ ∧
      R (.ok (.ret (.ref s.heap.objs.size))) { s with heap := s.heap.push { cls := .type "list", data := .seq (xs ++ ys) }, toks := s.toks } :=
  .of_wp fun P w A R s h => by
    obtain ⟨hp, g, d, tk, os⟩ := s
    obtain ⟨h1, h2, h⟩ := h
    have i1 := idx_int
    have i2 := sub_tuple_tuple
    have i3 := sub_list_list
    have i4 := sub_tuple_list
    have i5 := sub_list_tuple
    wp_walk using wpAny_loadPart' h1, wpAny_loadPart' h2
    exact ⟨_, rfl, h⟩
end
open PySem L2
def vv (K : PySem.W.Frag) : R2 := fun x y H Q => ∃ l b xs zs, x = .ref l ∧ y = .ref b ∧ SqL K H l xs ∧ SqL K H b zs ∧ xs.length + zs.length ≤ sizeLine ∧ ∀ p, H p = none → Q (.ref p) (upd H p (.lst (xs ++ zs)))
theorem Ac {X : Cx} : OpR X (binaryOp .Add) (vv X.K) := by
  intro pins s σ H x y v u Q I rx ry h
  obtain ⟨l, b, xs, zs, rfl, rfl, hH, hB, hz, q⟩ := h
  cases rx
  cases ry
  obtain ⟨its, r, ⟨⟨oc, od, odt, osl⟩, n, e, ec, ed, ee⟩, _⟩ := I.list hH
  obtain ⟨its2, r2, ⟨⟨oc2, od2, odt2, osl2⟩, n2, e2, ec2, ed2, ee2⟩, _⟩ := I.list hB
  dsimp only at ec ed ee ec2 ed2 ee2
  subst ec ed ee ec2 ed2 ee2
  have l1 := r.length
  have l2 := r2.length
  have ea : its.toArray ++ its2.toArray = (its ++ its2).toArray := by simp
  refine concat_meets ⟨_, e, rfl⟩ ⟨_, e2, rfl⟩ noFill_list_add seq_list_add F.slot_list_add F.entry_list_add (F.args_list_add_2 _ _) (w5 (by rw [List.size_toArray, List.size_toArray]; omega)) ⟨e, e2, ?_⟩
  rw [ea]
  exact ⟨.ref _, _, I.lnew (t' := s.toks) (r.append r2) (by rw [List.length_append]; omega), rfl, q _ I.fresh⟩
section
variable {H0 : Hp} {ρ : List Slot} {K : PySem.W.Frag} {f fa fb fc : Bool} {ta tb tc te : TE} {a b c : Bool} {N N1 : List Slot → Prop} {R : Abs} {t u w : TS}
theorem Eo {ds es : List PyData} (ha : DE H0 ρ ta f (aD K (.list ds))) (hb : DE H0 ρ tb f (aD K (.list es))) (hl : ds.length + es.length ≤ 100000) : DE H0 ρ (tOp (vv K) ta tb) f (aD K (.list (ds ++ es))) := fun σ H Hr Q E k => by
  refine ha σ H Hr _ E fun x H1 Hr1 x1 a1 => hb σ H1 Hr1 _ (E.ext x1) fun y H2 Hr2 x2 a2 => ?_
  cases a1 with
  | @lst p xs _ hs hA =>
    cases a2 with
    | @lst q ys _ hs2 hB =>
      have l1 := dD hA
      have l2 := dD hB
      refine ⟨p, q, xs, ys, rfl, rfl, ((bD f).trans (x2.r.trans x2.s)).seq hs, ((bD f).trans x2.s).seq hs2, Nat.le_trans (show _ ≤ 100000 by omega) (by rw [sizeLine_eq]; decide), fun r hn => ?_⟩
      have xt : Ext H2 Hr2 (upd H2 r (.lst (xs ++ ys))) (upd Hr2 r (.lst (xs ++ ys))) := Ext.lay x2.s hn
      exact k _ _ _ ((x1.trans x2).trans xt) (.lst (SqL.of (ie f ((E.ext x1).ext x2).base hn)) (oG (dpa_mono (cK f H0 (x2.r.trans xt.r)) _ _ hA) (dpa_mono (cK f H0 xt.r) _ _ hB)))
theorem uX {ds : List PyData} (h : DE H0 ρ te fa (aD K (.list ds))) (hf : ds.all scD = true) : DE H0 ρ (tCB (fun xs H Q => ∃ p ys, xs = [.ref p] ∧ (SqL K H p ys ∨ SqT K H p ys) ∧ ∀ l, H l = none → Q (.ref l) (upd H l (.lst ys))) (tCons te tNil)) f (aD K (.list ds)) := fun σ H Hr Q E k => h σ H Hr _ E fun v H1 Hr1 x1 a1 => by
  cases a1 with
  | @lst p xs _ hs hA =>
    refine ⟨p, xs, rfl, .inl (((bD fa).trans x1.s).seq hs), fun r hn => ?_⟩
    have xt : Ext H1 Hr1 (upd H1 r (.lst xs)) (upd Hr1 r (.lst xs)) := Ext.lay x1.s hn
    exact k _ _ _ (x1.trans xt) (.lst (SqL.of (ie f (E.ext x1).base hn)) (uN hf hA))
theorem qX {H : Hp} : ∀ {bs : List Bool} {xs : List V}, DpAll K H xs (bs.map PyData.bool) → xs = bs.map V.bl
  | [], _, .nil => rfl
  | b :: bs, _, .cons h t => by cases h; rw [qX t]; rfl
theorem tV {H : Hp} : ∀ {bs : List Str} {xs : List V}, DpAll K H xs (bs.map PyData.str) → xs = bs.map V.str
  | [], _, .nil => rfl
  | b :: bs, _, .cons h t => by cases h; rw [tV t]; rfl
theorem zr {bs : List Bool} (h : DE H0 ρ te fa (aD K (.list (bs.map .bool)))) : DE H0 ρ (tCB (rAll K) (tCons te tNil)) f (aD K (.bool (bs.all id))) := fun σ H Hr Q E k => h σ H Hr _ E fun v H1 Hr1 x1 a1 => by
  cases a1 with
  | @lst p xs _ hs hA =>
    rw [qX hA] at hs
    exact ⟨p, bs, rfl, ((bD fa).trans x1.s).seq hs, k _ H1 Hr1 x1 (.bl _)⟩
theorem Br {z : Str} {ys : List Str} (ha : DE H0 ρ ta fa (aD K (.str z))) (hb : DE H0 ρ tb fb (aD K (.list (ys.map .str)))) (hl : (ys.map (·.length)).sum + ys.length * z.length ≤ 16777216) :
    DE H0 ρ (tM1 (fun x xs H Q => ∃ a p, ∃ ys : List Str, x = .str a ∧ xs = [.ref p] ∧ (SqL K H p (ys.map V.str) ∨ SqT K H p (ys.map V.str)) ∧ (ys.map (·.length)).sum + ys.length * a.length ≤ 16777216 ∧ Q (.str (Txt.join a ys)) H) ta tb) f (aD K (.str (Txt.join z ys))) := fun σ H Hr Q E k =>
  ha σ H Hr _ E fun x H1 Hr1 x1 a1 => by
    cases a1
    refine ⟨⟨z, rfl⟩, hb σ H1 Hr1 _ (E.ext x1) fun y H2 Hr2 x2 a2 => ?_⟩
    cases a2 with
    | @lst p xs _ hs hA =>
      rw [tV hA] at hs
      exact ⟨z, p, ys, rfl, rfl, .inl (((bD fb).trans x2.s).seq hs), hl, k _ H2 Hr2 (x1.trans x2) (.str _)⟩
theorem Em {i j m : Str} (ha : DE H0 ρ ta fa (aD K (.str i))) (hb : DE H0 ρ tb fb (aD K (.str j))) (hc : DE H0 ρ tc fc (aD K (.str m))) :
    DE H0 ρ (tChain (fun x y H Q => ∃ i j, x = .str i ∧ y = .str j ∧ Q (.bl (!decide (j.cps.toList < i.cps.toList))) H) (fun x y H Q => ∃ i j, x = .str i ∧ y = .str j ∧ Q (.bl (!decide (j.cps.toList < i.cps.toList))) H) ta tb tc) f
      (aD K (.bool (!decide (j.cps.toList < i.cps.toList) && !decide (m.cps.toList < j.cps.toList)))) := fun σ H Hr Q E k => by
  refine ha σ H Hr _ E fun x H1 Hr1 x1 q1 => hb σ H1 Hr1 _ (E.ext x1) fun y H2 Hr2 x2 q2 => ?_
  cases q1; cases q2
  refine ⟨i, j, rfl, rfl, _, rfl, ?_⟩
  cases hg : (!decide (j.cps.toList < i.cps.toList)) with
  | true =>
    rw [if_pos rfl]
    refine hc σ H2 Hr2 _ ((E.ext x1).ext x2) fun z H3 Hr3 x3 q3 => ?_
    cases q3
    exact ⟨j, m, rfl, rfl, k _ H3 Hr3 ((x1.trans x2).trans x3) (by rw [hg, Bool.true_and]; exact .bl _)⟩
  | false => rw [if_neg Bool.false_ne_true]; exact k _ H2 Hr2 (x1.trans x2) (by rw [hg, Bool.false_and]; exact .bl _)
end
inductive FAll : List (Str × Abs) → List (Str × V) → Hp → Prop
  | nil {H : Hp} : FAll [] [] H
  | cons {n : Str} {A : Abs} {v : V} {fas : List (Str × Abs)} {fs : List (Str × V)} {H : Hp} : A.p v H → FAll fas fs H → FAll ((n, A) :: fas) ((n, v) :: fs) H
theorem FAll.mono {H H' : Hp} (s : Same H H') : ∀ {fas : List (Str × Abs)} {fs : List (Str × V)}, FAll fas fs H → FAll fas fs H'
  | _, _, .nil => .nil
  | _, _, .cons (A := A) h t => .cons (A.mono _ _ _ s h) (FAll.mono s t)
theorem FAll.look {H : Hp} {x : Str} {A : Abs} : ∀ {fas : List (Str × Abs)} {fs : List (Str × V)}, FAll fas fs H → fas.lookup x = some A → ∃ v, fs.lookup x = some v ∧ A.p v H
  | _, _, .nil, e => by cases e
  | _, _, .cons (n := n) (v := v) (fas := fas) (fs := fs) h t, e => by
    rw [List.lookup_cons] at e ⊢
    cases q : x == n with
    | true => rw [q] at e; cases e; exact ⟨v, rfl, h⟩
    | false => rw [q] at e; exact FAll.look t e
theorem FAll.none {H : Hp} {x : Str} : ∀ {fas : List (Str × Abs)} {fs : List (Str × V)}, FAll fas fs H → fas.lookup x = none → fs.lookup x = none
  | _, _, .nil, _ => rfl
  | _, _, .cons (n := n) (fas := fas) (fs := fs) h t, e => by
    rw [List.lookup_cons] at e ⊢
    cases q : x == n with
    | true => rw [q] at e; cases e
    | false => rw [q] at e; exact FAll.none t e
def kf (C : Addr) (fas : List (Str × Abs)) : Abs := ⟨fun v H => ∃ a dx fs, v = .ref a ∧ H a = some (.ins C dx fs) ∧ FAll fas fs H, fun v _ _ s ⟨a, dx, fs, e, h, q⟩ => ⟨a, dx, fs, e, s _ _ h, q.mono s⟩⟩
def qo (x C dx : Addr) (fas : List (Str × Abs)) : AbsO := ⟨fun a o H => a = x ∧ ∃ fs, o = .ins C dx fs ∧ FAll fas fs H, fun _ _ _ _ s ⟨z, fs, e, q⟩ => ⟨z, fs, e, q.mono s⟩⟩
def rm (H : Hp) (x : Addr) : Hp := fun a => if a = x then none else H a
theorem z3 {H : Hp} {x : Addr} : rm H x x = none := by unfold rm; rw [if_pos rfl]
theorem k8 {H : Hp} {x a : Addr} {o : HO} (h : rm H x a = some o) : H a = some o ∧ a ≠ x := by
  unfold rm at h
  by_cases e : a = x
  · rw [if_pos e] at h; cases h
  · rw [if_neg e] at h; exact ⟨h, e⟩
theorem jC {H : Hp} {x a : Addr} (h : a ≠ x) : rm H x a = H a := by unfold rm; rw [if_neg h]
def spI (S : List Abs → List (Str × Abs) → Prop) (C : Addr) : Sp := fun vs H Q _ => ∃ x dx As fas rest, vs = .ref x :: rest ∧ H x = some (.ins C dx []) ∧ S As fas ∧ AllP As rest (rm H x) ∧
  ∀ H' fs, Same (rm H x) H' → H' x = some (.ins C dx fs) → FAll fas fs (mns H' H) → Q .non H'
section
variable {H0 : Hp} {ρ : List Slot} {K : PySem.W.Frag} {f fa fb fc : Bool} {ta tb tc te : TE} {N N1 : List Slot → Prop} {R : Abs} {t u w : TS} {C : Addr} {fas : List (Str × Abs)}
theorem Ej {x : Str} {A : Abs} (h : DE H0 ρ ta f (kf C fas)) (hc : Cls K C) (hn : NoAttr K C x) (hl : fas.lookup x = some A) : DE H0 ρ (tFld K ta x) f A := fun σ H Hr Q E k => h σ H Hr _ E fun v H1 Hr1 x1 a1 => by
  obtain ⟨a, dx, fs, rfl, e, q⟩ := a1
  obtain ⟨v, l, p⟩ := q.look hl
  exact ⟨a, C, dx, fs, v, rfl, ((bD f).trans x1.s) _ _ e, hc, hn, l, k v H1 Hr1 x1 p⟩
theorem v4 {S : Spec} {As : List Abs} {R : Abs} {t : TA} {Ex : XK} {m : Str} (h : DE H0 ρ ta fa (kf C fas)) (hl : fas.lookup m = none) (ha : DA H0 ρ t false As) (hs : S (kf C fas :: As) R) : DE H0 ρ (tMeth C m (spF S) [] Ex ta t) f R := fun σ H Hr Q E k => h σ H Hr _ E fun v H1 Hr1 x1 a1 => by
  have a1' := a1
  obtain ⟨a, dx, fs, rfl, e, q⟩ := a1
  refine ⟨a, dx, fs, rfl, ((bD fa).trans x1.s) _ _ e, q.none hl, ha σ H1 Hr1 _ (E.ext x1) fun vs H2 Hr2 x2 a2 => ?_⟩
  rw [List.append_nil]
  refine ⟨_, R, hs, .cons ((kf C fas).mono _ _ _ ((bD fa).trans (x2.r.trans x2.s)) a1') (a2.mono x2.s), fun v H3 s3 r3 => k v H3 _ (Ext.call E.sub (x1.trans x2).h s3) ?_⟩
  have r4 := R.mono _ _ _ (iQ E.base E.sub (x1.trans x2).h) r3
  cases f
  · exact R.mono _ _ _ jg r4
  · exact r4
end
theorem tq (As : List Abs) (n : Nat) : qO (As.map Slot.dat ++ List.replicate n Slot.no) = true := by
  unfold qO
  rw [List.all_eq_true]
  intro s hs
  rcases List.mem_append.mp hs with h | h
  · obtain ⟨A, _, rfl⟩ := List.mem_map.mp h; rfl
  · rw [(List.mem_replicate.mp h).2]
theorem tp (As : List Abs) (n : Nat) : g9 (As.map Slot.dat ++ List.replicate n Slot.no) = true := by
  unfold g9
  rw [List.all_eq_true]
  intro s hs
  rcases List.mem_append.mp hs with h | h
  · obtain ⟨A, _, rfl⟩ := List.mem_map.mp h; rfl
  · rw [(List.mem_replicate.mp h).2]
theorem EnvOk.consOwn {H0 H : Hp} {σ : St} {ρ : List Slot} {x : Addr} {o : HO} {B : AbsO} (E : EnvOk H0 σ ρ H0 H0) (hn : qO ρ = true) (nr : g9 ρ = true) (h0 : H0 x = none) (hx : H x = some o) (s : Same H0 H) (hB : ∀ G, B.p x o G) : EnvOk H0 (some (.ref x) :: σ) (.own B :: ρ) H H0 := by
  have no : ∀ (i : Nat) (B : AbsO), ρ[i]? ≠ some (.own B) := fun i B h => by
    unfold qO at hn
    rw [List.all_eq_true] at hn
    exact Bool.noConfusion (hn _ (List.mem_of_getElem? h))
  refine ⟨s, s, by simp [E.len], fun i u hu => ?_, fun i j p B1 B2 hij hi hj _ _ => ?_, .nil fun i A h => by
    cases i with
    | zero => cases h
    | succ i => exact iw nr i A (by simpa using h)⟩
  · cases i with
    | zero =>
      have e := Option.some.inj hu
      subst e
      exact ⟨x, o, rfl, h0, h0, hx, hB _⟩
    | succ i =>
      have hu' : ρ[i]? = some u := by simpa using hu
      have q := E.slot i u hu'
      cases u with
      | no => trivial
      | dat A => exact q
      | new A => exact q
      | reg A => trivial
      | own B => exact absurd hu' (no i B)
  · cases i with
    | zero =>
      cases j with
      | zero => exact hij rfl
      | succ j => exact no j B2 (by simpa using hj)
    | succ i => exact no i B1 (by simpa using hi)
section
variable {P : Program} {w : World} {K : PySem.W.Frag} {mg : Str → Option Value} {base : Heap}
end
end Kj

namespace Kj
open PySem L2
section
variable {P : Program} {w : World} {K : PySem.W.Frag} {mg : Str → Option Value} {base : Heap}
def fP (P : Program) (w : World) (K : PySem.W.Frag) (mg : Str → Option Value) (base : Heap) (C : Addr) (m : Str) (k : Nat) (ps : List Str) (sp : Sp) : Prop :=
  ∃ f fd, Cls K C ∧ Meth K C m f ∧ Binds K fd ps [] ∧ FnOk P w K mg base CX0 k f fd ps sp
def BP (P : Program) (w : World) (K : PySem.W.Frag) (mg : Str → Option Value) (base : Heap) (x : Str) (C : Addr) (k : Nat) (ps : List Str) (sp : Sp) : Prop :=
  ∃ f fd, Mk K C f ∧ mg x = some (.ref C) ∧ Binds K fd ps [] ∧ FnOk P w K mg base CX0 k f fd ps sp
theorem lM {x qual m : Str} {C : Addr} {st : Stmt} {f : Addr} {fd : FuncData} {k : Nat} {ps : List Str} {sp : Sp} (F : FnP K x qual st f fd) (c : Cls K C) (hm : Meth K C m f) (G : FnOk P w K mg base CX0 k f fd ps sp)
    (h : ∀ (kV doc pm : Value) (an : Option Addr) (cdv ct : Value) (us : List Value), us.length = ps.length → bindArgs (PySem.W.fnOf x qual (defArgs st) (defBody st) (defScope st) .none kV doc pm an cdv ct) ⟨us, []⟩ = pure (ps.zip us)) : fP P w K mg base C m k ps sp :=
  ⟨f, fd, c, hm, F.bindsN h, G⟩
theorem GF {x qual n : Str} {C : Addr} {st : Stmt} {f : Addr} {fd : FuncData} {k : Nat} {ps : List Str} {sp : Sp} (F : FnP K x qual st f fd) (M : Mk K C f) (hg : mg n = some (.ref C)) (G : FnOk P w K mg base CX0 k f fd ps sp)
    (h : ∀ (kV doc pm : Value) (an : Option Addr) (cdv ct : Value) (us : List Value), us.length = ps.length → bindArgs (PySem.W.fnOf x qual (defArgs st) (defBody st) (defScope st) .none kV doc pm an cdv ct) ⟨us, []⟩ = pure (ps.zip us)) : BP P w K mg base n C k ps sp :=
  ⟨f, fd, M, hg, F.bindsN h, G⟩
end
theorem o3 {X : Cx} {C : Addr} {k : Nat} {ps : List Str} {sp : Sp} {m : Str} {pos apos : Pos} {o e : Expr} {es : List Expr} {ta : TE} {t : TA} {pl : Sem Bool} (he : PE X o ta) (D : fP X.prog X.w X.K X.mg X.base C m k ps sp) (hr : Room k X.A) (ha : PA X (e :: es) t)
    (hst : starEach (e :: es) X.env = (false, eval e X.env) :: starEach es X.env := by rfl) (hpl : (backTo pos (starEach es X.env)).any (·.1) = false := by rfl)
    (ht : eval (.Call (.Attribute o m apos) (e :: es) [] pos) X.env = (do
      let ov ← eval o X.env
      standAt apos.atName
      let (f, first) ← holding [ov] (getMethod ov m pl)
      callWith pos f first (backTo pos (starEach (e :: es) X.env)) (backToKw pos (keywordEach [] X.env))) := by rfl) :
    PE X (.Call (.Attribute o m apos) (e :: es) [] pos) (tMeth C m sp [] E0 ta t) := by
  obtain ⟨f, fd, h1, h2, h3, h4⟩ := D
  exact pe_meth (pl := pl) he h1 h2 h4 hr h3 .nil pass0 ha hst hpl ht
theorem iP {X : Cx} {C : Addr} {k : Nat} {ps : List Str} {sp : Sp} {m : Str} {pos apos : Pos} {o : Expr} {ta : TE} {pl : Sem Bool} (he : PE X o ta) (D : fP X.prog X.w X.K X.mg X.base C m k ps sp) (hr : Room k X.A)
    (ht : eval (.Call (.Attribute o m apos) [] [] pos) X.env = (do
      let ov ← eval o X.env
      standAt apos.atName
      let (f, first) ← holding [ov] (getMethod ov m pl)
      callWith pos f first (backTo pos (starEach [] X.env)) (backToKw pos (keywordEach [] X.env))) := by rfl) :
    PE X (.Call (.Attribute o m apos) [] [] pos) (tMeth C m sp [] E0 ta tNil) := by
  obtain ⟨f, fd, h1, h2, h3, h4⟩ := D
  exact pe_meth0 (pl := pl) he h1 h2 h4 hr h3 .nil pass0 ht
theorem kz {X : Cx} {x : Str} {i : Int} {pos : Pos} (hg : Gl X x) (hm : ∃ t, X.mg x = some (.int i t)) (hd : (x == ("__debug__" : Str)) = false := by decide) : PE X (.Name x pos) (tC (.int i)) := by
  obtain ⟨t, h⟩ := hm
  exact pe_glob hg h ⟨t, rfl⟩ hd
def dS (v : List Str) : PyData := .list (v.map .str)
def dB (b : List (List Str)) : PyData := .list (b.map dS)
end Kj

namespace Kj
open PySem L2 TL
def Syl (z : Str) : Prop := 1 ≤ z.cps.size ∧ z.cps.size ≤ 3 ∧ ∀ c ∈ z.cps.toList, 97 ≤ c ∧ c ≤ 122
def Ver (v : List Str) : Prop := 1 ≤ v.length ∧ v.length ≤ 8 ∧ ∀ z ∈ v, Syl z
def alk (a b : List Str) : Bool := decide (a.take (min a.length b.length) = b.take (min a.length b.length))
def qe (m : Nat) (b : List (List Str)) : Prop := 1 ≤ b.length ∧ b.length ≤ m ∧ (∀ v ∈ b, Ver v) ∧ b.Pairwise (fun x y => alk x y = false)
theorem qT : ∀ cs : List Nat, joinL [] (cs.map fun c => [c]) = cs
  | [] => rfl
  | [c] => rfl
  | c :: d :: r => by
    show [c] ++ ([] ++ joinL [] ((d :: r).map fun c => [c])) = _
    rw [qT (d :: r)]
    rfl
theorem tF (cs : List Nat) : (Txt.join (Str.ofString "") (cs.map fun c => (⟨#[c]⟩ : Str))).cps.toList = cs := by
  rw [join_eq]
  have h := tl_join (Str.ofString "") (cs.map fun c => (⟨#[c]⟩ : Str))
  have e : tl (Str.ofString "") = [] := by decide
  rw [e, List.map_map] at h
  have e2 : (tl ∘ fun c => (⟨#[c]⟩ : Str)) = fun c => [c] := rfl
  rw [e2, qT] at h
  exact h
theorem xz {cs : List Nat} (h1 : 1 ≤ cs.length) (h2 : cs.length ≤ 3) (h3 : ∀ c ∈ cs, 97 ≤ c ∧ c ≤ 122) : Syl (Txt.join (Str.ofString "") (cs.map fun c => (⟨#[c]⟩ : Str))) := by
  have e := tF cs
  refine ⟨?_, ?_, ?_⟩
  · rw [← Array.length_toList, e]; exact h1
  · rw [← Array.length_toList, e]; exact h2
  · rw [e]; exact h3
def Cz (z : Str) : Bool := decide (1 ≤ z.cps.size) && (decide (z.cps.size ≤ 3) && z.cps.toList.all fun c => decide (97 ≤ c) && decide (c ≤ 122))
theorem zS {z : Str} (h : Cz z = true) : Syl z := by
  unfold Cz at h
  rw [Bool.and_eq_true, Bool.and_eq_true, List.all_eq_true] at h
  refine ⟨of_decide_eq_true h.1, of_decide_eq_true h.2.1, fun c hc => ?_⟩
  have := h.2.2 c hc
  rw [Bool.and_eq_true] at this
  exact ⟨of_decide_eq_true this.1, of_decide_eq_true this.2⟩
theorem k7 {l : List Str} (h : l.all Cz = true) : ∀ z ∈ l, Syl z := fun z hz => zS (List.all_eq_true.mp h z hz)
theorem zI (a b : List Str) : alk a b = alk b a := by
  unfold alk
  rw [Nat.min_comm]
  by_cases h : a.take (min b.length a.length) = b.take (min b.length a.length)
  · rw [decide_eq_true h, decide_eq_true h.symm]
  · rw [decide_eq_false h, decide_eq_false (fun z => h z.symm)]
end Kj

namespace Kj
open PySem L2
def NN (m : Nat) (ms : List Int) : Prop := m ≤ ms.length ∧ ∀ x ∈ ms, 0 ≤ x
theorem NN.mono {m n : Nat} {ms : List Int} (h : NN m ms) (hn : n ≤ m) : NN n ms := ⟨Nat.le_trans hn h.1, h.2⟩
theorem NN.get {m : Nat} {ms : List Int} (h : NN m ms) (i : Nat) : 0 ≤ ms.getD i 0 := by
  rw [List.getD_eq_getElem?_getD]
  cases e : ms[i]? with
  | none => exact Int.le_refl _
  | some x => exact h.2 x (List.mem_of_getElem? e)
theorem NN.drop {m n : Nat} {ms : List Int} (h : NN m ms) (hn : n ≤ m) : NN (m - n) (ms.drop n) := ⟨by rw [List.length_drop]; have := h.1; omega, fun x hx => h.2 x (List.mem_of_mem_drop hx)⟩
theorem NN.take {m n : Nat} {ms : List Int} (h : NN m ms) (hn : n ≤ m) : NN n (ms.take n) := ⟨by rw [List.length_take]; have := h.1; omega, fun x hx => h.2 x (List.mem_of_mem_take hx)⟩
theorem p_ {α : Type} (xs : List α) {a b : Int} (h : 0 ≤ a) (hb : a ≤ b) : iD xs (some a) (some b) = (xs.drop a.toNat).take (b.toNat - a.toNat) := by
  unfold iD
  rw [rn _ _ h, rn _ _ (by omega)]
  by_cases h2 : a.toNat ≤ xs.length
  · rw [Nat.min_eq_left h2]
    by_cases h3 : b.toNat ≤ xs.length
    · rw [Nat.min_eq_left h3]
    · rw [Nat.min_eq_right (by omega), List.take_of_length_le (by simp), List.take_of_length_le (by simp; omega)]
  · have e1 : xs.drop a.toNat = [] := List.drop_eq_nil_of_le (by omega)
    have e2 : xs.drop (min a.toNat xs.length) = [] := List.drop_eq_nil_of_le (by omega)
    rw [e1, e2]; simp
theorem g_ {α : Type} {xs : List α} {i : Nat} {z : α} (h : i < xs.length) : xs.getD i z ∈ xs := by
  rw [List.getD_eq_getElem?_getD, List.getElem?_eq_getElem h]
  exact List.getElem_mem h
theorem Ver.take {v : List Str} (h : Ver v) {n : Nat} (hn : 1 ≤ n) : Ver (v.take n) := ⟨by rw [List.length_take]; have := h.1; omega, by rw [List.length_take]; have := h.2.1; omega, fun z hz => h.2.2 z (List.mem_of_mem_take hz)⟩
section
variable {H0 : Hp} {ρ : List Slot} {K : PySem.W.Frag} {f fa fb fc : Bool} {ta tb tc te : TE}
end
end Kj

namespace Kj
open PySem L2
class Enc (α : Type) where
  enc : α → PyData
  plain : ∀ x, (enc x).plain = true
  dep : Nat
  depth : ∀ x, (enc x).depth ≤ dep
  eqv : ∀ x y, PyData.eqv (enc x) (enc y) = true ↔ x = y
abbrev en {α : Type} [Enc α] (x : α) : PyData := Enc.enc x
theorem ge {α : Type} [Enc α] (x : α) : (en x).depth ≤ Enc.dep α := Enc.depth x
instance : Enc Int := ⟨.int, fun _ => by simp [PyData.plain], 0, fun _ => by simp [PyData.depth], fun x y => by simp [PyData.eqv]⟩
instance : Enc Bool := ⟨.bool, fun _ => by simp [PyData.plain], 0, fun _ => by simp [PyData.depth], fun x y => by simp [PyData.eqv]⟩
instance : Enc Str := ⟨.str, fun _ => by simp [PyData.plain], 0, fun _ => by simp [PyData.depth], fun x y => by simp [PyData.eqv]⟩
instance : Enc Unit := ⟨fun _ => .none, fun _ => by simp [PyData.plain], 0, fun _ => by simp [PyData.depth], fun x y => by simp [PyData.eqv]⟩
theorem iO {α : Type} [Enc α] : ∀ xs : List α, PyData.plainAll (xs.map en) = true
  | [] => by simp [PyData.plainAll]
  | x :: xs => by simp [PyData.plainAll, Enc.plain, iO xs]
theorem jL {α : Type} [Enc α] : ∀ xs : List α, PyData.depthAll (xs.map en) ≤ Enc.dep α
  | [] => by simp [PyData.depthAll]
  | x :: xs => by
    have := jL xs
    have := ge x
    simp only [List.map_cons, PyData.depthAll]
    omega
theorem mI {α : Type} [Enc α] : ∀ xs ys : List α, PyData.eqvAll (xs.map en) (ys.map en) = true ↔ xs = ys
  | [], [] => by simp [PyData.eqvAll]
  | [], _ :: _ => by simp [PyData.eqvAll]
  | _ :: _, [] => by simp [PyData.eqvAll]
  | x :: xs, y :: ys => by simp [PyData.eqvAll, Enc.eqv, mI xs ys]
instance {α : Type} [Enc α] : Enc (List α) := ⟨fun xs => .list (xs.map en), fun xs => by simp only [PyData.plain]; exact iO xs, Enc.dep α + 1, fun xs => by have := jL xs; simp only [PyData.depth]; omega, fun xs ys => by simp only [PyData.eqv]; exact mI xs ys⟩
structure P2 (α β : Type) where
  a : α
  b : β
  deriving DecidableEq
structure P3 (α β γ : Type) where
  a : α
  b : β
  c : γ
  deriving DecidableEq
structure P4 (α β γ δ : Type) where
  a : α
  b : β
  c : γ
  d : δ
  deriving DecidableEq
instance {α β : Type} [Enc α] [Enc β] : Enc (P2 α β) := ⟨fun p => .tuple [en p.a, en p.b], fun p => by simp [PyData.plain, PyData.plainAll, Enc.plain], max (Enc.dep α) (Enc.dep β) + 1, fun p => by
  have := ge p.a; have := ge p.b
  simp only [PyData.depth, PyData.depthAll]; omega, fun p q => by
  cases p; cases q; simp [PyData.eqv, PyData.eqvAll, Enc.eqv]⟩
instance {α β γ : Type} [Enc α] [Enc β] [Enc γ] : Enc (P3 α β γ) := ⟨fun p => .tuple [en p.a, en p.b, en p.c], fun p => by simp [PyData.plain, PyData.plainAll, Enc.plain], max (max (Enc.dep α) (Enc.dep β)) (Enc.dep γ) + 1, fun p => by
  have := ge p.a; have := ge p.b; have := ge p.c
  simp only [PyData.depth, PyData.depthAll]; omega, fun p q => by
  cases p; cases q; simp [PyData.eqv, PyData.eqvAll, Enc.eqv]⟩
instance {α β γ δ : Type} [Enc α] [Enc β] [Enc γ] [Enc δ] : Enc (P4 α β γ δ) := ⟨fun p => .tuple [en p.a, en p.b, en p.c, en p.d], fun p => by simp [PyData.plain, PyData.plainAll, Enc.plain], max (max (Enc.dep α) (Enc.dep β)) (max (Enc.dep γ) (Enc.dep δ)) + 1, fun p => by
  have := ge p.a; have := ge p.b; have := ge p.c; have := ge p.d
  simp only [PyData.depth, PyData.depthAll]; omega, fun p q => by
  cases p; cases q; simp [PyData.eqv, PyData.eqvAll, Enc.eqv]⟩
def yt : PyData → Bool | .none => true | _ => false
class EncN (α : Type) [Enc α] : Prop where
  nn : ∀ x : α, PyData.eqv .none (en x) = false ∧ PyData.eqv (en x) .none = false ∧ yt (en x) = false
instance : EncN Int := ⟨fun x => ⟨rfl, rfl, rfl⟩⟩
instance : EncN Bool := ⟨fun x => ⟨rfl, rfl, rfl⟩⟩
instance : EncN Str := ⟨fun x => ⟨rfl, rfl, rfl⟩⟩
instance {α : Type} [Enc α] : EncN (List α) := ⟨fun x => ⟨by show PyData.eqv .none (.list _) = false; simp [PyData.eqv], by show PyData.eqv (.list _) .none = false; simp [PyData.eqv], rfl⟩⟩
instance {α β : Type} [Enc α] [Enc β] : EncN (P2 α β) := ⟨fun x => ⟨by show PyData.eqv .none (.tuple _) = false; simp [PyData.eqv], by show PyData.eqv (.tuple _) .none = false; simp [PyData.eqv], rfl⟩⟩
instance {α β γ : Type} [Enc α] [Enc β] [Enc γ] : EncN (P3 α β γ) := ⟨fun x => ⟨by show PyData.eqv .none (.tuple _) = false; simp [PyData.eqv], by show PyData.eqv (.tuple _) .none = false; simp [PyData.eqv], rfl⟩⟩
instance {α β γ δ : Type} [Enc α] [Enc β] [Enc γ] [Enc δ] : EncN (P4 α β γ δ) := ⟨fun x => ⟨by show PyData.eqv .none (.tuple _) = false; simp [PyData.eqv], by show PyData.eqv (.tuple _) .none = false; simp [PyData.eqv], rfl⟩⟩
def uK {α : Type} [Enc α] : Option α → PyData
  | none => .none
  | some x => en x
instance {α : Type} [Enc α] [EncN α] : Enc (Option α) := ⟨uK, fun x => by cases x; simp [uK, PyData.plain]; exact Enc.plain _, Enc.dep α, fun x => by
  cases x with
  | none => simp [uK, PyData.depth]
  | some x => exact Enc.depth x, fun x y => by
  cases x with
  | none => cases y with
    | none => simp [uK, PyData.eqv]
    | some y => simp [uK, (EncN.nn y).1]
  | some x => cases y with
    | none => simp [uK, (EncN.nn x).2.1]
    | some y => simp [uK, Enc.eqv]⟩
class Flt (α : Type) [Enc α] : Prop where
  fl : ∀ x : α, scD (en x) = true
instance : Flt Int := ⟨fun _ => rfl⟩
instance : Flt Bool := ⟨fun _ => rfl⟩
instance : Flt Str := ⟨fun _ => rfl⟩
instance : Flt Unit := ⟨fun _ => rfl⟩
instance {α : Type} [Enc α] [EncN α] [Flt α] : Flt (Option α) := ⟨fun x => by
  cases x with
  | none => rfl
  | some x => exact Flt.fl x⟩
theorem sE {α : Type} [Enc α] [Flt α] : ∀ xs : List α, (xs.map en).all scD = true
  | [] => rfl
  | x :: xs => by simp [List.map_cons, List.all_cons, Flt.fl, sE xs]
abbrev aE {α : Type} [Enc α] (K : PySem.W.Frag) (x : α) : Abs := aD K (en x)
abbrev oE {α : Type} [Enc α] (K : PySem.W.Frag) (x : List α) : AbsO := oL K (x.map en)
theorem lQ {α : Type} [Enc α] [DecidableEq α] (x y : α) : PyData.eqv (en x) (en y) = decide (x = y) := by
  cases h : PyData.eqv (en x) (en y) with
  | true => exact (decide_eq_true ((Enc.eqv x y).mp h)).symm
  | false => exact (decide_eq_false fun e => by rw [(Enc.eqv x y).mpr e] at h; cases h).symm
section
open PySem.SeqAt
variable {X : Cx}
def CH (K : PySem.W.Frag) : R2 := fun x y H Q => ∃ d e, Dp K H x d ∧ Dp K H y e ∧ d.plain = true ∧ e.plain = true ∧ d.depth ≤ 64 ∧ Q (.bl (PyData.eqv d e)) H
def CF (K : PySem.W.Frag) : R2 := fun x y H Q => ∃ d e, Dp K H x d ∧ Dp K H y e ∧ d.plain = true ∧ e.plain = true ∧ d.depth ≤ 64 ∧ Q (.bl (!PyData.eqv d e)) H
theorem CQ (hu : X.A.units + 64 < cLine) : OpR X (compareOp .Eq) (CH X.K) := by
  intro pins s σ H x y v u Q I rx ry h
  obtain ⟨d, e, hd, he, sd, se, hl, q⟩ := h
  obtain ⟨as, r1⟩ := Dp.reads I d x v hd rx
  obtain ⟨bs, r2⟩ := Dp.reads I e y u he ry
  exact eq_plain r1 r2 sd se (by omega) ⟨.bl _, H, I, rfl, q⟩
theorem CO (hu : X.A.units + 64 < cLine) : OpR X (compareOp .NotEq) (CF X.K) := by
  intro pins s σ H x y v u Q I rx ry h
  obtain ⟨d, e, hd, he, sd, se, hl, q⟩ := h
  obtain ⟨as, r1⟩ := Dp.reads I d x v hd rx
  obtain ⟨bs, r2⟩ := Dp.reads I e y u he ry
  exact ne_plain r1 r2 sd se (by omega) ⟨.bl _, H, I, rfl, q⟩
def CG (K : PySem.W.Frag) : R2 := fun x y H Q => ∃ d ds, Dp K H x d ∧ Dp K H y (.list ds) ∧ d.plain = true ∧ PyData.plainAll ds = true ∧ d.depth ≤ 60 ∧ Q (.bl (ds.any fun z => PyData.eqv z d)) H
def F7 (K : PySem.W.Frag) : R2 := fun x y H Q => ∃ d ds, Dp K H x d ∧ Dp K H y (.list ds) ∧ d.plain = true ∧ PyData.plainAll ds = true ∧ d.depth ≤ 60 ∧ Q (.bl (!ds.any fun z => PyData.eqv z d)) H
theorem CP (hu : X.A.units + 64 < cLine) : OpR X (compareOp .In) (CG X.K) := by
  intro pins s σ H x y v u Q I rx ry h
  obtain ⟨d, ds, hd, he, sd, se, hl, q⟩ := h
  obtain ⟨as, r1⟩ := Dp.reads I d x v hd rx
  obtain ⟨bs, r2⟩ := Dp.reads I (.list ds) y u he ry
  exact in_list_data r2 r1 se sd (by omega) ⟨.bl _, H, I, rfl, q⟩
end
def DM (H0 : Hp) (ρ : List Slot) (t : TE) (f : Bool) {α : Type} (A : α → Abs) (m : Option α) : Prop := ∀ x, m = some x → DE H0 ρ t f (A x)
def DTm (K : PySem.W.Frag) (H0 : Hp) (ρ : List Slot) (t : TT) (m : Option Bool) : Prop := ∀ b, m = some b → DT K H0 ρ t b
def DOm (K : PySem.W.Frag) (H0 : Hp) (ρ : List Slot) (t : TO) (m : Option (Option Int)) : Prop := ∀ o, m = some o → DO K H0 ρ t o
def b1 {α γ : Type} (g : α → Option γ) (ma : Option α) : Option γ := ma.bind g
def b2 {α β γ : Type} (g : α → β → Option γ) (ma : Option α) (mb : Option β) : Option γ := ma.bind fun a => mb.bind fun b => g a b
def b3 {α β γ δ : Type} (g : α → β → γ → Option δ) (ma : Option α) (mb : Option β) (mc : Option γ) : Option δ := ma.bind fun a => mb.bind fun b => mc.bind fun c => g a b c
def b4 {α β γ δ ε : Type} (g : α → β → γ → δ → Option ε) (ma : Option α) (mb : Option β) (mc : Option γ) (md : Option δ) : Option ε := ma.bind fun a => mb.bind fun b => mc.bind fun c => md.bind fun d => g a b c d
def b5 {α β γ δ ε ζ : Type} (g : α → β → γ → δ → ε → Option ζ) (ma : Option α) (mb : Option β) (mc : Option γ) (md : Option δ) (me : Option ε) : Option ζ := ma.bind fun a => mb.bind fun b => mc.bind fun c => md.bind fun d => me.bind fun e => g a b c d e
theorem cC {α γ : Type} {g : α → Option γ} {ma : Option α} {z : γ} (h : b1 g ma = some z) : ∃ a, ma = some a ∧ g a = some z := Option.bind_eq_some_iff.mp h
theorem cq {α β γ : Type} {g : α → β → Option γ} {ma : Option α} {mb : Option β} {z : γ} (h : b2 g ma mb = some z) : ∃ a b, ma = some a ∧ mb = some b ∧ g a b = some z := by
  obtain ⟨a, h1, h⟩ := Option.bind_eq_some_iff.mp h
  obtain ⟨b, h2, h⟩ := Option.bind_eq_some_iff.mp h
  exact ⟨a, b, h1, h2, h⟩
theorem mU {α β γ δ : Type} {g : α → β → γ → Option δ} {ma : Option α} {mb : Option β} {mc : Option γ} {z : δ} (h : b3 g ma mb mc = some z) : ∃ a b c, ma = some a ∧ mb = some b ∧ mc = some c ∧ g a b c = some z := by
  obtain ⟨a, h1, h⟩ := Option.bind_eq_some_iff.mp h
  obtain ⟨b, c, h2, h3, h⟩ := cq (g := g a) h
  exact ⟨a, b, c, h1, h2, h3, h⟩
section
variable {α β γ δ : Type} {a : α} {b : β} {c : γ} {d : δ}
@[simp] theorem b1_ss {g : α → Option γ} : b1 g (some a) = g a := rfl
@[simp] theorem b2_ss {g : α → β → Option γ} : b2 g (some a) (some b) = g a b := rfl
@[simp] theorem b3_ss {g : α → β → γ → Option δ} : b3 g (some a) (some b) (some c) = g a b c := rfl
@[simp] theorem b4_ss {ε : Type} {g : α → β → γ → δ → Option ε} : b4 g (some a) (some b) (some c) (some d) = g a b c d := rfl
@[simp] theorem b5_ss {ε ζ : Type} {e : ε} {g : α → β → γ → δ → ε → Option ζ} : b5 g (some a) (some b) (some c) (some d) (some e) = g a b c d e := rfl
end
instance {i j : Int} : Decidable (CMul i j) := by unfold CMul; infer_instance
instance {i j : Int} : Decidable (CPow i j) := by unfold CPow; infer_instance
instance {i j : Int} : Decidable (CDiv i j) := by unfold CDiv; infer_instance
def cN (i j : Int) : Option Int := some (i + j)
def jT (i j : Int) : Option Int := some (i - j)
def fE (i j : Int) : Option Int := if CMul i j then some (i * j) else none
def hW (i j : Int) : Option Int := if CDiv i j then some (i / j) else none
def bJ (i j : Int) : Option Int := if 0 < j then some (i % j) else none
@[irreducible] def powI (i j : Int) : Option Int := if CPow i j then some (i ^ j.toNat) else none
def jY (i : Int) : Option Int := some (-i)
def ya (i j : Int) : Option Int := some (if j < i then j else i)
def Am (i j : Int) : Option Int := some (if j > i then j else i)
def ltI (i j : Int) : Option Bool := some (decide (i < j))
def leI (i j : Int) : Option Bool := some (decide (i ≤ j))
def gtI (i j : Int) : Option Bool := some (decide (j < i))
def geI (i j : Int) : Option Bool := some (decide (j ≤ i))
def eqM {α : Type} [DecidableEq α] (x y : α) : Option Bool := some (decide (x = y))
def neM {α : Type} [DecidableEq α] (x y : α) : Option Bool := some (!decide (x = y))
def inM {α : Type} [DecidableEq α] (x : α) (xs : List α) : Option Bool := some (decide (x ∈ xs))
def jW {α : Type} [DecidableEq α] (x : α) (xs : List α) : Option Bool := some (!decide (x ∈ xs))
def fG (ma mb : Option Bool) : Option Bool := ma.bind fun a => if a = true then mb else some false
def orM (ma mb : Option Bool) : Option Bool := ma.bind fun a => if a = true then some true else mb
def dC (ma : Option Bool) : Option Bool := ma.bind fun a => some (!a)
def a9 {α : Type} (mc : Option Bool) (ma mb : Option α) : Option α := mc.bind fun c => if c = true then ma else mb
def chM {α : Type} (g g' : α → α → Option Bool) (ma mb mc : Option α) : Option Bool := ma.bind fun a => mb.bind fun b => (g a b).bind fun k => if k = true then mc.bind fun c => g' b c else some false
def b7 {α : Type} (xs : List α) : Option Int := some xs.length
def rJ (z : Str) : Option Int := if z.length ≤ sizeLine then some z.length else none
def cM {α : Type} (xs : List α) (lo hi : Option Int) : Option (List α) := some (iD xs lo hi)
def dw {α : Type} (xs ys : List α) : Option (List α) := if xs.length + ys.length ≤ 100000 then some (xs ++ ys) else none
def jh {α : Type} (xs : List α) : Option (List α) := some xs
def nH (bs : List Bool) : Option Bool := some (bs.all id)
def qS (z : Str) (ys : List Str) : Option Str := if (ys.map (·.length)).sum + ys.length * z.length ≤ 16777216 then some (Txt.join z ys) else none
def ixS (z : Str) (i : Int) : Option Str := if z.length ≤ sizeLine then (atI z.cps.toList i).map fun c => ⟨#[c]⟩ else none
def leS (i j : Str) : Option Bool := some (!decide (j.cps.toList < i.cps.toList))
def ce : Option (Option Int) := some none
def bN (m : Option Int) : Option (Option Int) := m.map some
section
variable {H0 : Hp} {ρ : List Slot} {K : PySem.W.Frag} {f fa fb fc g : Bool} {ta tb tc te : TE} {α β γ δ : Type}
theorem vX {A : α → Abs} {x : α} (h : DE H0 ρ te f (A x)) : DM H0 ρ te f A (some x) := fun y e => by cases e; exact h
theorem ae {A : α → Abs} {x : α} {i : Nat} (h : ρ[i]? = some (sl f (A x))) : DM H0 ρ (tVar i) f A (some x) := vX (FR h)
theorem bx [Enc α] [Flt α] {m : Option α} (h : DM H0 ρ te f (aE K) m) : DM H0 ρ te g (aE K) m := fun x e => FS (h x e) (Flt.fl x)
theorem aq {i : Int} : DM H0 ρ (tC (.int i)) true (aE K) (some i) := vX uY
theorem bE {i : Str} : DM H0 ρ (tC (.str i)) true (aE K) (some i) := vX D5
theorem q8 {i : Bool} : DM H0 ρ (tC (.bl i)) true (aE K) (some i) := vX zq
variable {mi mj mk : Option Int}
theorem dW (ha : DM H0 ρ ta fa (aE K) mi) (hb : DM H0 ρ tb fb (aE K) mj) : DM H0 ρ (tOp (rI0 fun i j => .int (i + j)) ta tb) true (aE K) (b2 cN mi mj) := fun x e => by
  obtain ⟨i, j, h1, h2, h⟩ := cq e; cases h; exact Es (ha i h1) (hb j h2)
theorem DR (ha : DM H0 ρ ta fa (aE K) mi) (hb : DM H0 ρ tb fb (aE K) mj) : DM H0 ρ (tOp (rI0 fun i j => .int (i - j)) ta tb) true (aE K) (b2 jT mi mj) := fun x e => by
  obtain ⟨i, j, h1, h2, h⟩ := cq e; cases h; exact D4 (ha i h1) (hb j h2)
theorem iC (ha : DM H0 ρ ta fa (aE K) mi) (hb : DM H0 ρ tb fb (aE K) mj) : DM H0 ρ (tOp (rI CMul fun i j => .int (i * j)) ta tb) true (aE K) (b2 fE mi mj) := fun x e => by
  obtain ⟨i, j, h1, h2, h⟩ := cq e
  unfold fE at h
  split at h
  · cases h; exact D_ (ha i h1) (hb j h2) (by assumption)
  · cases h
theorem jw (ha : DM H0 ρ ta fa (aE K) mi) (hb : DM H0 ρ tb fb (aE K) mj) : DM H0 ρ (tOp (rI CDiv fun i j => .int (i / j)) ta tb) true (aE K) (b2 hW mi mj) := fun x e => by
  obtain ⟨i, j, h1, h2, h⟩ := cq e
  unfold hW at h
  split at h
  · cases h; exact Bv (ha i h1) (hb j h2) (by assumption)
  · cases h
theorem cp (ha : DM H0 ρ ta fa (aE K) mi) (hb : DM H0 ρ tb fb (aE K) mj) : DM H0 ρ (tOp (rI (fun _ j => 0 < j) fun i j => .int (i % j)) ta tb) true (aE K) (b2 bJ mi mj) := fun x e => by
  obtain ⟨i, j, h1, h2, h⟩ := cq e
  unfold bJ at h
  split at h
  · cases h; exact Ec (ha i h1) (hb j h2) (by assumption)
  · cases h
theorem DU (ha : DM H0 ρ ta fa (aE K) mi) (hb : DM H0 ρ tb fb (aE K) mj) : DM H0 ρ (tOp (rI CPow fun i j => .int (i ^ j.toNat)) ta tb) true (aE K) (b2 powI mi mj) := fun x e => by
  obtain ⟨i, j, h1, h2, h⟩ := cq e
  unfold powI at h
  split at h
  · cases h; exact D7 (ha i h1) (hb j h2) (by assumption)
  · cases h
theorem DY (ha : DM H0 ρ ta fa (aE K) mi) (hb : DM H0 ρ tb fb (aE K) mj) : DM H0 ρ (tCB (fun xs H Q => ∃ i j, xs = [.int i, .int j] ∧ Q (.int (if j < i then j else i)) H) (tCons ta (tCons tb tNil))) true (aE K) (b2 ya mi mj) := fun x e => by
  obtain ⟨i, j, h1, h2, h⟩ := cq e; cases h; exact Ed (ha i h1) (hb j h2)
theorem DZ (ha : DM H0 ρ ta fa (aE K) mi) (hb : DM H0 ρ tb fb (aE K) mj) : DM H0 ρ (tCB (fun xs H Q => ∃ i j, xs = [.int i, .int j] ∧ Q (.int (if j > i then j else i)) H) (tCons ta (tCons tb tNil))) true (aE K) (b2 Am mi mj) := fun x e => by
  obtain ⟨i, j, h1, h2, h⟩ := cq e; cases h; exact Ee (ha i h1) (hb j h2)
theorem pT {g : Int → Int → Bool} {G : Int → Int → Option Bool} (ha : DM H0 ρ ta fa (aE K) mi) (hb : DM H0 ρ tb fb (aE K) mj) (hg : ∀ i j, G i j = some (g i j)) : DM H0 ρ (tOp (rI0 fun i j => .bl (g i j)) ta tb) true (aE K) (b2 G mi mj) := fun x e => by
  obtain ⟨i, j, h1, h2, h⟩ := cq e
  rw [hg] at h
  cases h; exact El (ha i h1) (hb j h2)
theorem jv (ha : DM H0 ρ ta fa (aE K) mi) (hb : DM H0 ρ tb fb (aE K) mj) : DM H0 ρ (tOp rEq ta tb) true (aE K) (b2 eqM mi mj) := fun x e => by
  obtain ⟨i, j, h1, h2, h⟩ := cq e; cases h; exact uZ (ha i h1) (hb j h2)
theorem DX {mi mj : Option Str} (ha : DM H0 ρ ta fa (aE K) mi) (hb : DM H0 ρ tb fb (aE K) mj) : DM H0 ρ (tOp rNe ta tb) true (aE K) (b2 neM mi mj) := fun x e => by
  obtain ⟨i, j, h1, h2, h⟩ := cq e; cases h; exact D9 (ha i h1) (hb j h2)
theorem sq [Enc α] [DecidableEq α] {mi mj : Option α} (ha : DM H0 ρ ta fa (aE K) mi) (hb : DM H0 ρ tb fb (aE K) mj) (hd : Enc.dep α ≤ 64) : DM H0 ρ (tOp (CH K) ta tb) true (aE K) (b2 eqM mi mj) := fun x e => by
  obtain ⟨i, j, h1, h2, h⟩ := cq e; cases h
  refine kQ (ha i h1) (hb j h2) fun x y Hr H Q s p q k => ⟨_, _, dE s _ _ p, dE s _ _ q, Enc.plain _, Enc.plain _, Nat.le_trans (Enc.depth _) hd, k _ fun _ => ?_⟩
  rw [lQ]; exact .bl _
theorem yZ [Enc α] [DecidableEq α] {mi mj : Option α} (ha : DM H0 ρ ta fa (aE K) mi) (hb : DM H0 ρ tb fb (aE K) mj) (hd : Enc.dep α ≤ 64) : DM H0 ρ (tOp (CF K) ta tb) true (aE K) (b2 neM mi mj) := fun x e => by
  obtain ⟨i, j, h1, h2, h⟩ := cq e; cases h
  refine kQ (ha i h1) (hb j h2) fun x y Hr H Q s p q k => ⟨_, _, dE s _ _ p, dE s _ _ q, Enc.plain _, Enc.plain _, Nat.le_trans (Enc.depth _) hd, k _ fun _ => ?_⟩
  rw [lQ]; exact .bl _
theorem wb [Enc α] [DecidableEq α] (x : α) : ∀ xs : List α, ((xs.map en).any fun z => PyData.eqv z (en x)) = decide (x ∈ xs)
  | [] => rfl
  | y :: ys => by
    rw [List.map_cons, List.any_cons, wb x ys, lQ]
    by_cases h1 : y = x
    · subst h1; simp
    · have h2 : ¬ x = y := fun z => h1 z.symm
      simp [h1, h2]
theorem FN [Enc α] [DecidableEq α] {mi : Option α} {mj : Option (List α)} (ha : DM H0 ρ ta fa (aE K) mi) (hb : DM H0 ρ tb fb (aE K) mj) (hd : Enc.dep α ≤ 60) : DM H0 ρ (tOp (CG K) ta tb) true (aE K) (b2 inM mi mj) := fun x e => by
  obtain ⟨i, j, h1, h2, h⟩ := cq e; cases h
  refine kQ (ha i h1) (hb j h2) fun x y Hr H Q s p q k => ⟨_, j.map en, dE s _ _ p, dE s _ _ q, Enc.plain _, iO j, Nat.le_trans (Enc.depth _) hd, k _ fun _ => ?_⟩
  rw [wb]; exact .bl _
variable {ma mb mc : Option Bool}
theorem pU (ha : DM H0 ρ ta fa (aE K) ma) (hb : DM H0 ρ tb fb (aE K) mb) : DM H0 ρ (tAndV ta tb) true (aE K) (fG ma mb) := fun x e => by
  obtain ⟨a, h1, h⟩ := Option.bind_eq_some_iff.mp e
  cases a with
  | true => exact jl (sy (a := true) (b := x) (ha _ h1) (fun _ => hb x h)) rfl
  | false => cases h; exact jl (sy (a := false) (b := true) (fb := true) (tb := tb) (ha _ h1) (fun z => nomatch z)) rfl
theorem DV (ha : DM H0 ρ ta fa (aE K) ma) : DM H0 ρ (tNotV ta) true (aE K) (dC ma) := fun x e => by
  obtain ⟨a, h1, h⟩ := Option.bind_eq_some_iff.mp e
  cases h; exact D8 (ha _ h1)
theorem FP {A : α → Abs} {t : TT} {m1 m2 : Option α} (h : DTm K H0 ρ t mc) (ha : DM H0 ρ ta f A m1) (hb : DM H0 ρ tb f A m2) : DM H0 ρ (tIf t ta tb) f A (a9 mc m1 m2) := fun x e => by
  obtain ⟨c, h1, h2⟩ := Option.bind_eq_some_iff.mp e
  refine FU (h c h1) (fun z => ?_) (fun z => ?_)
  · subst z; exact ha x h2
  · subst z; exact hb x h2
theorem v5 {d : PyData} (h : DE H0 ρ ta fa (aD K d)) : DE H0 ρ (tIsN ta) true (aD K (.bool (yt d))) := fun σ H Hr Q E k => h σ H Hr _ E fun v H' Hr' x q => k _ H' Hr' x (by cases q <;> exact .bl _)
theorem kP {g g' : Int → Int → Bool} {G G' : Int → Int → Option Bool} (ha : DM H0 ρ ta fa (aE K) mi) (hb : DM H0 ρ tb fb (aE K) mj) (hc : DM H0 ρ tc fc (aE K) mk) (hg : ∀ i j, G i j = some (g i j)) (hg' : ∀ i j, G' i j = some (g' i j)) :
    DM H0 ρ (tChain (rI0 fun i j => .bl (g i j)) (rI0 fun i j => .bl (g' i j)) ta tb tc) true (aE K) (chM G G' mi mj mk) := fun x e => by
  obtain ⟨i, h1, e⟩ := Option.bind_eq_some_iff.mp e
  obtain ⟨j, h2, e⟩ := Option.bind_eq_some_iff.mp e
  rw [hg, Option.bind_some] at e
  cases hb1 : g i j with
  | false =>
    rw [hb1] at e
    cases e
    intro σ H Hr Q E k
    refine ha i h1 σ H Hr _ E fun x H1 Hr1 x1 q1 => hb j h2 σ H1 Hr1 _ (E.ext x1) fun y H2 Hr2 x2 q2 => ?_
    cases q1; cases q2
    refine ⟨i, j, rfl, rfl, g i j, rfl, ?_⟩
    rw [hb1, if_neg Bool.false_ne_true]
    exact k _ H2 Hr2 (x1.trans x2) (.bl _)
  | true =>
    rw [hb1, if_pos rfl] at e
    obtain ⟨m, h3, e⟩ := Option.bind_eq_some_iff.mp e
    rw [hg'] at e
    cases e
    exact jl (En (ha i h1) (hb j h2) (hc m h3)) (by rw [hb1, Bool.true_and]; rfl)
theorem zh {mi mj mk : Option Str} (ha : DM H0 ρ ta fa (aE K) mi) (hb : DM H0 ρ tb fb (aE K) mj) (hc : DM H0 ρ tc fc (aE K) mk) :
    DM H0 ρ (tChain (fun x y H Q => ∃ i j, x = .str i ∧ y = .str j ∧ Q (.bl (!decide (j.cps.toList < i.cps.toList))) H) (fun x y H Q => ∃ i j, x = .str i ∧ y = .str j ∧ Q (.bl (!decide (j.cps.toList < i.cps.toList))) H) ta tb tc) true (aE K) (chM leS leS mi mj mk) := fun x e => by
  obtain ⟨i, h1, e⟩ := Option.bind_eq_some_iff.mp e
  obtain ⟨j, h2, e⟩ := Option.bind_eq_some_iff.mp e
  unfold leS at e
  rw [Option.bind_some] at e
  cases hb1 : (!decide (j.cps.toList < i.cps.toList)) with
  | false =>
    rw [hb1] at e
    cases e
    intro σ H Hr Q E k
    refine ha i h1 σ H Hr _ E fun x H1 Hr1 x1 q1 => hb j h2 σ H1 Hr1 _ (E.ext x1) fun y H2 Hr2 x2 q2 => ?_
    cases q1; cases q2
    refine ⟨i, j, rfl, rfl, _, rfl, ?_⟩
    rw [hb1, if_neg Bool.false_ne_true]
    exact k _ H2 Hr2 (x1.trans x2) (.bl _)
  | true =>
    rw [hb1, if_pos rfl] at e
    obtain ⟨m, h3, e⟩ := Option.bind_eq_some_iff.mp e
    cases e
    exact jl (Em (ha i h1) (hb j h2) (hc m h3)) (by rw [hb1, Bool.true_and]; rfl)
theorem cS {m : Option Bool} (h : DM H0 ρ te fa (aE K) m) : DTm K H0 ρ (tTest te) m := fun b e => mJ (h b e)
theorem jK {m : Option Bool} (h : DM H0 ρ te fa (aE K) m) : DTm K H0 ρ (tB te) m := fun b e => DD (h b e)
theorem A7 {t u : TT} (h : DTm K H0 ρ t ma) (h2 : DTm K H0 ρ u mb) : DTm K H0 ρ (tAnd t u) (fG ma mb) := fun x e => by
  obtain ⟨a, h1, h'⟩ := Option.bind_eq_some_iff.mp e
  cases a with
  | true => exact vU (yV (b := x) (h _ h1) fun _ => h2 x h') (by simp)
  | false => cases h'; exact vU (yV (b := true) (u := u) (h _ h1) fun z => nomatch z) rfl
theorem uL {t u : TT} (h : DTm K H0 ρ t ma) (h2 : DTm K H0 ρ u mb) : DTm K H0 ρ (tOr t u) (orM ma mb) := fun x e => by
  obtain ⟨a, h1, h'⟩ := Option.bind_eq_some_iff.mp e
  cases a with
  | true => cases h'; exact vU (vT (b := true) (u := u) (h _ h1) fun z => nomatch z) rfl
  | false => exact vU (vT (b := x) (h _ h1) fun _ => h2 x h') (by simp)
theorem hP {t : TT} (h : DTm K H0 ρ t ma) : DTm K H0 ρ (tNot t) (dC ma) := fun x e => by
  obtain ⟨a, h1, h'⟩ := Option.bind_eq_some_iff.mp e
  cases h'; exact Dz (h _ h1)
theorem eM : DTm K H0 ρ tYes (some true) := fun b e => by cases e; exact yU
theorem j9 [Enc α] {m : Option (List α)} (ha : DM H0 ρ ta f (aE K) m) (hb : DM H0 ρ tb fb (aE K) mj) : DM H0 ρ (tOp (rIxL K) ta tb) f (aE K) (b2 atI m mj) := fun x e => by
  obtain ⟨xs, j, h1, h2, h⟩ := cq e
  refine Ei (ha xs h1) (hb j h2) ?_
  unfold atI at h ⊢
  rw [List.length_map]
  cases q : ixN xs.length j with
  | none => rw [q] at h; cases h
  | some i =>
    rw [q] at h
    have h' : xs[i]? = some x := h
    show (xs.map en)[i]? = some (en x)
    rw [List.getElem?_map, h']; rfl
theorem cE [Enc α] [Flt α] {m : Option (List α)} (ha : DM H0 ρ ta fa (aE K) m) (hb : DM H0 ρ tb fb (aE K) mj) : DM H0 ρ (tOp (rIxL K) ta tb) true (aE K) (b2 atI m mj) := bx (j9 ha hb)
theorem zc {m : Option Str} (ha : DM H0 ρ ta fa (aE K) m) (hb : DM H0 ρ tb fb (aE K) mj) : DM H0 ρ (tOp rIxS ta tb) true (aE K) (b2 ixS m mj) := fun x e => by
  obtain ⟨z, j, h1, h2, h⟩ := cq e
  unfold ixS at h
  split at h
  · obtain ⟨c, h3, rfl⟩ := Option.map_eq_some_iff.mp h
    exact Eh (ha z h1) (hb j h2) (by assumption) h3
  · cases h
theorem dq : DOm K H0 ρ tNoPart ce := fun o e => by cases e; exact FK
theorem cU (h : DM H0 ρ te fa (aE K) mi) : DOm K H0 ρ (tPart te) (bN mi) := fun o e => by
  obtain ⟨i, h1, rfl⟩ := Option.map_eq_some_iff.mp e
  exact FJ (h i h1)
theorem kM [Enc α] {m : Option (List α)} {tl th : TO} {ml mh : Option (Option Int)} (h : DM H0 ρ te f (aE K) m) (hl : DOm K H0 ρ tl ml) (hh : DOm K H0 ρ th mh) : DM H0 ρ (tSl (rSlL K) te tl th) f (aE K) (b3 cM m ml mh) := fun x e => by
  obtain ⟨xs, lo, hi, h1, h2, h3, h⟩ := mU e
  cases h
  exact jl (FT (h _ h1) (hl _ h2) (hh _ h3)) (by rw [t4]; rfl)
theorem eX [Enc α] [Flt α] {m : Option (List α)} {tl th : TO} {ml mh : Option (Option Int)} (h : DM H0 ρ te fa (aE K) m) (hl : DOm K H0 ρ tl ml) (hh : DOm K H0 ρ th mh) : DM H0 ρ (tSl (rSlL K) te tl th) true (aE K) (b3 cM m ml mh) := fun x e => by
  obtain ⟨xs, lo, hi, h1, h2, h3, h⟩ := mU e
  cases h
  exact jl (D6 (h _ h1) (hl _ h2) (hh _ h3) (sE xs)) (by rw [t4]; rfl)
theorem eq [Enc α] {m : Option (List α)} (h : DM H0 ρ te fa (aE K) m) : DM H0 ρ (tCB (fun xs H Q => ∃ x n, xs = [x] ∧ LenV K x H n ∧ Q (.int n) H) (tCons te tNil)) true (aE K) (b1 b7 m) := fun x e => by
  obtain ⟨xs, h1, h2⟩ := cC e
  cases h2
  exact jl (Bq (h _ h1)) (by rw [List.length_map]; rfl)
theorem sk {m : Option Str} (h : DM H0 ρ te fa (aE K) m) : DM H0 ρ (tCB (fun xs H Q => ∃ x n, xs = [x] ∧ LenV K x H n ∧ Q (.int n) H) (tCons te tNil)) true (aE K) (b1 rJ m) := fun x e => by
  obtain ⟨xs, h1, h2⟩ := cC e
  unfold rJ at h2
  split at h2
  · cases h2
    exact sv (h _ h1) ⟨by assumption, rfl⟩
  · cases h2
theorem fC [Enc α] {m m' : Option (List α)} (ha : DM H0 ρ ta f (aE K) m) (hb : DM H0 ρ tb f (aE K) m') : DM H0 ρ (tOp (vv K) ta tb) f (aE K) (b2 dw m m') := fun x e => by
  obtain ⟨xs, ys, h1, h2, h⟩ := cq e
  unfold dw at h
  split at h
  · cases h
    exact jl (Eo (ha _ h1) (hb _ h2) (by simpa using by assumption)) (by rw [← List.map_append]; rfl)
  · cases h
theorem kO [Enc α] [Flt α] {m : Option (List α)} (h : DM H0 ρ te fa (aE K) m) : DM H0 ρ (tCB (fun xs H Q => ∃ p ys, xs = [.ref p] ∧ (SqL K H p ys ∨ SqT K H p ys) ∧ ∀ l, H l = none → Q (.ref l) (upd H l (.lst ys))) (tCons te tNil)) true (aE K) (b1 jh m) := fun x e => by
  obtain ⟨xs, h1, h2⟩ := cC e
  cases h2
  exact uX (h _ h1) (sE _)
theorem nG {m : Option (List Bool)} (h : DM H0 ρ te fa (aE K) m) : DM H0 ρ (tCB (rAll K) (tCons te tNil)) true (aE K) (b1 nH m) := fun x e => by
  obtain ⟨xs, h1, h2⟩ := cC e
  cases h2
  exact zr (h _ h1)
theorem vY {mz : Option Str} {my : Option (List Str)} (ha : DM H0 ρ ta fa (aE K) mz) (hb : DM H0 ρ tb fb (aE K) my) :
    DM H0 ρ (tM1 (fun x xs H Q => ∃ a p, ∃ ys : List Str, x = .str a ∧ xs = [.ref p] ∧ (SqL K H p (ys.map V.str) ∨ SqT K H p (ys.map V.str)) ∧ (ys.map (·.length)).sum + ys.length * a.length ≤ 16777216 ∧ Q (.str (Txt.join a ys)) H) ta tb) true (aE K) (b2 qS mz my) := fun x e => by
  obtain ⟨z, ys, h1, h2, h⟩ := cq e
  unfold qS at h
  split at h
  · cases h
    exact Br (ha _ h1) (hb _ h2) (by assumption)
  · cases h
def DAm (H0 : Hp) (K : PySem.W.Frag) (ρ : List Slot) (t : TA) (f : Bool) {α : Type} [Enc α] (m : Option (List α)) : Prop := ∀ xs, m = some xs → DAd H0 K ρ t f (xs.map en)
def ar {α : Type} (x : α) (xs : List α) : Option (List α) := some (x :: xs)
theorem da [Enc α] : DAm H0 K ρ tNil f (some ([] : List α)) := fun xs e => by cases e; exact v8
theorem be [Enc α] {t : TA} {m : Option α} {ms : Option (List α)} (h : DM H0 ρ te f (aE K) m) (hr : DAm H0 K ρ t f ms) : DAm H0 K ρ (tCons te t) f (b2 ar m ms) := fun xs e => by
  obtain ⟨y, ys, h1, h2, h'⟩ := cq e
  cases h'
  exact mO (h _ h1) (hr _ h2)
def aK {α : Type} (xs : List α) : Option (List α) := if xs.length ≤ 1000 then some xs else none
theorem dP [Enc α] {t : TA} {m : Option (List α)} (h : DAm H0 K ρ t f m) : DM H0 ρ (tLst t) f (aE K) (b1 aK m) := fun xs e => by
  obtain ⟨ys, h1, h2⟩ := cC e
  unfold aK at h2
  split at h2
  · rename_i hl; cases h2; exact Ef (h _ h1) (by rw [List.length_map]; exact hl)
  · cases h2
def mk2 {α β : Type} (a : α) (b : β) : Option (P2 α β) := some ⟨a, b⟩
def mk3 {α β γ : Type} (a : α) (b : β) (c : γ) : Option (P3 α β γ) := some ⟨a, b, c⟩
def mk4 {α β γ δ : Type} (a : α) (b : β) (c : γ) (d : δ) : Option (P4 α β γ δ) := some ⟨a, b, c, d⟩
theorem hV [Enc α] [Enc β] [Enc γ] {m1 : Option α} {m2 : Option β} {m3 : Option γ} (h1 : DM H0 ρ ta f (aE K) m1) (h2 : DM H0 ρ tb f (aE K) m2) (h3 : DM H0 ρ tc f (aE K) m3) : DM H0 ρ (tTup (tCons ta (tCons tb (tCons tc tNil)))) f (aE K) (b3 mk3 m1 m2 m3) := fun xs e => by
  obtain ⟨a, b, c, e1, e2, e3, h⟩ := mU e
  cases h
  exact D3 (mO (h1 _ e1) (mO (h2 _ e2) (mO (h3 _ e3) v8)))
theorem zb [Enc α] [Enc β] [Enc γ] {m : Option (P3 α β γ)} (h : DM H0 ρ ta f (aE K) m) : DM H0 ρ (tOp (rIxT K) ta (tC (.int 0))) f (aE K) (m.map P3.a) := fun x e => by
  obtain ⟨p, h1, rfl⟩ := Option.map_eq_some_iff.mp e
  exact Eg (fb := true) (h p h1) uY rfl
theorem uT [Enc α] [Flt α] {ρ' : List Slot} {m : Option α} (bo : Bo H0 ρ ρ') (h : DM H0 ρ' te f (aE K) m) : DM H0 ρ te true (aE K) m := fun x e => Er bo (h x e) (Flt.fl x)
theorem vS {ρ' : List Slot} {t : TT} {m : Option Bool} (bo : Bo H0 ρ ρ') (h : DTm K H0 ρ' t m) : DTm K H0 ρ t m := fun x e => DC bo (h x e)
theorem j5 [Enc α] {i : Nat} {xs : List α} (hi : ρ[i]? = some (.own (oE K xs))) : Bo H0 ρ (ρ.set i (sl true (aE K xs))) := EA hi
end
def sp1 {α γ : Type} (A : α → Abs) (C : γ → Abs) (F : α → Option γ) : Spec := fun As R => ∃ a c, As = [A a] ∧ F a = some c ∧ R = C c
def sp2 {α β γ : Type} (A : α → Abs) (B : β → Abs) (C : γ → Abs) (F : α → β → Option γ) : Spec := fun As R => ∃ a b c, As = [A a, B b] ∧ F a b = some c ∧ R = C c
def sp3 {α β δ γ : Type} (A : α → Abs) (B : β → Abs) (D : δ → Abs) (C : γ → Abs) (F : α → β → δ → Option γ) : Spec := fun As R => ∃ a b d c, As = [A a, B b, D d] ∧ F a b d = some c ∧ R = C c
def sp4 {α β δ ε γ : Type} (A : α → Abs) (B : β → Abs) (D : δ → Abs) (E : ε → Abs) (C : γ → Abs) (F : α → β → δ → ε → Option γ) : Spec := fun As R => ∃ a b d e c, As = [A a, B b, D d, E e] ∧ F a b d e = some c ∧ R = C c
def sp5 {α β δ ε ζ γ : Type} (A : α → Abs) (B : β → Abs) (D : δ → Abs) (E : ε → Abs) (G : ζ → Abs) (C : γ → Abs) (F : α → β → δ → ε → ζ → Option γ) : Spec := fun As R => ∃ a b d e g c, As = [A a, B b, D d, E e, G g] ∧ F a b d e g = some c ∧ R = C c
section
variable {H0 : Hp} {ρ ρ' : List Slot} {K : PySem.W.Frag} {f fa fb fc fd fe : Bool} {ta tb tc td te : TE} {α β γ δ ε ζ : Type} {A : α → Abs} {B : β → Abs} {C : γ → Abs} {D : δ → Abs} {E' : ε → Abs} {G : ζ → Abs} {Ex : XK} {ma : Option α} {mb : Option β} {md : Option δ} {me : Option ε} {mg : Option ζ}
theorem fF {F : α → Option γ} (bo : Bo H0 ρ ρ') (h1 : DM H0 ρ' ta fa A ma) : DM H0 ρ (tCall (spF (sp1 A C F)) [] Ex (tCons ta tNil)) true C (b1 F ma) := fun x e => by
  obtain ⟨a, e1, h⟩ := cC e
  exact mM bo (fS (h1 _ e1) ja) ⟨a, x, rfl, h, rfl⟩
theorem gr {F : α → β → Option γ} (bo : Bo H0 ρ ρ') (h1 : DM H0 ρ' ta fa A ma) (h2 : DM H0 ρ' tb fb B mb) : DM H0 ρ (tCall (spF (sp2 A B C F)) [] Ex (tCons ta (tCons tb tNil))) true C (b2 F ma mb) := fun x e => by
  obtain ⟨a, b, e1, e2, h⟩ := cq e
  exact mM bo (fS (h1 _ e1) (fS (h2 _ e2) ja)) ⟨a, b, x, rfl, h, rfl⟩
theorem zi {F : α → β → δ → Option γ} (bo : Bo H0 ρ ρ') (h1 : DM H0 ρ' ta fa A ma) (h2 : DM H0 ρ' tb fb B mb) (h3 : DM H0 ρ' tc fc D md) : DM H0 ρ (tCall (spF (sp3 A B D C F)) [] Ex (tCons ta (tCons tb (tCons tc tNil)))) true C (b3 F ma mb md) := fun x e => by
  obtain ⟨a, b, d, e1, e2, e3, h⟩ := mU e
  exact mM bo (fS (h1 _ e1) (fS (h2 _ e2) (fS (h3 _ e3) ja))) ⟨a, b, d, x, rfl, h, rfl⟩
variable {Cl : Addr} {m : Str} {O : α → List (Str × Abs)}
theorem pS {F : α → Option γ} (h1 : DM H0 ρ ta fa (fun a => kf Cl (O a)) ma) (hl : ∀ a, (O a).lookup m = none) : DM H0 ρ (tMeth Cl m (spF (sp1 (fun a => kf Cl (O a)) C F)) [] Ex ta tNil) true C (b1 F ma) := fun x e => by
  obtain ⟨a, e1, h⟩ := cC e
  exact v4 (h1 _ e1) (hl a) ja ⟨a, x, rfl, h, rfl⟩
theorem y_ {F : α → β → Option γ} (h1 : DM H0 ρ ta fa (fun a => kf Cl (O a)) ma) (h2 : DM H0 ρ tb fb B mb) (hl : ∀ a, (O a).lookup m = none) : DM H0 ρ (tMeth Cl m (spF (sp2 (fun a => kf Cl (O a)) B C F)) [] Ex ta (tCons tb tNil)) true C (b2 F ma mb) := fun x e => by
  obtain ⟨a, b, e1, e2, h⟩ := cq e
  exact v4 (h1 _ e1) (hl a) (fS (h2 _ e2) ja) ⟨a, b, x, rfl, h, rfl⟩
theorem uS {x : Str} {B : β → Abs} {p : α → β} (h : DM H0 ρ ta f (fun a => kf Cl (O a)) ma) (hc : Cls K Cl) (hn : NoAttr K Cl x) (hl : ∀ a, (O a).lookup x = some (B (p a))) : DM H0 ρ (tFld K ta x) f B (ma.map p) := fun y e => by
  obtain ⟨a, h1, rfl⟩ := Option.map_eq_some_iff.mp e
  exact Ej (h a h1) hc hn (hl a)
def si1 {α γ : Type} (A : α → Abs) (O : γ → List (Str × Abs)) (F : α → Option γ) : List Abs → List (Str × Abs) → Prop := fun As fas => ∃ a c, As = [A a] ∧ F a = some c ∧ fas = O c
def si3 {α β δ γ : Type} (A : α → Abs) (B : β → Abs) (D : δ → Abs) (O : γ → List (Str × Abs)) (F : α → β → δ → Option γ) : List Abs → List (Str × Abs) → Prop := fun As fas => ∃ a b d c, As = [A a, B b, D d] ∧ F a b d = some c ∧ fas = O c
end
end Kj

namespace Kj
open PySem L2
def DWm (H0 : Hp) (ρ : List Slot) (wi : TI) (f : Bool) {α : Type} (A : α → Abs) (m : Option (List α)) : Prop := ∀ xs, m = some xs → DW H0 ρ wi xs.length f (fun i => match xs[i]? with | some x => A x | none => aNo)
@[irreducible] def rngM (j : Int) : Option (List Int) := if -(2 ^ 62) ≤ j ∧ j < 2 ^ 62 then some ((List.range j.toNat).map fun n : Nat => (n : Int)) else none
@[irreducible] def rng2M (l j : Int) : Option (List Int) := if -(2 ^ 62) ≤ l ∧ l < 2 ^ 62 ∧ -(2 ^ 62) ≤ j ∧ j < 2 ^ 62 then some ((List.range (j - l).toNat).map fun n : Nat => l + (n : Int)) else none
def ug (z : Str) : Option (List Str) := some (z.cps.toList.map fun c => (⟨#[c]⟩ : Str))
def Cq {α β : Type} (xs : List α) (ys : List β) : Option (List (P2 α β)) := some ((xs.zip ys).map fun p => ⟨p.1, p.2⟩)
def gX {α : Type} (xs : List α) : Option (List (P2 Int α)) := some (xs.zipIdx.map fun p => ⟨(p.2 : Int), p.1⟩)
section
variable {H0 : Hp} {ρ : List Slot} {K : PySem.W.Frag} {f fa fb fc g : Bool} {ta tb tc te : TE} {α β γ δ : Type}
theorem jJ {wi : TI} {n : Nat} {As As' : Nat → Abs} (h : DW H0 ρ wi n f As) (e : ∀ i, i < n → As i = As' i) : DW H0 ρ wi n f As' := fun σ H Hr R E k => h σ H Hr R E fun J H' Hr' x w => k J H' Hr' x fun G Gr s1 s2 s3 => by
  obtain ⟨w1, w2⟩ := w G Gr s1 s2 s3
  exact ⟨fun i hi => ⟨(w1 i hi).1, fun x G' y => by
    obtain ⟨Gr', x', a⟩ := (w1 i hi).2 x G' y
    exact ⟨Gr', x', e i hi ▸ a⟩⟩, w2⟩
theorem gd [Enc α] {m : Option (List α)} (h : DM H0 ρ te f (aE K) m) : DWm H0 ρ (iList K te) f (aE K) m := fun xs e => by
  have w := A5 (h xs e)
  rw [List.length_map] at w
  refine jJ w fun i hi => ?_
  rw [List.getD_eq_getElem?_getD, List.getElem?_map, List.getElem?_eq_getElem hi]
  rfl
theorem fh {m : Option Int} (h : DM H0 ρ te fa (aE K) m) : DWm H0 ρ (iRng1 (tCons te tNil)) true (aE K) (b1 rngM m) := fun xs e => by
  obtain ⟨j, h1, h2⟩ := cC e
  unfold rngM at h2
  split at h2
  · rename_i hb
    cases h2
    have w := AZ (f := true) (h j h1) hb.1 hb.2
    rw [List.length_map, List.length_range]
    refine jJ w fun i hi => ?_
    rw [List.getElem?_map, List.getElem?_range hi]
    rfl
  · cases h2
theorem yS {m m' : Option Int} (h : DM H0 ρ ta fa (aE K) m) (h' : DM H0 ρ tb fb (aE K) m') : DWm H0 ρ (iRng2 (tCons ta (tCons tb tNil))) true (aE K) (b2 rng2M m m') := fun xs e => by
  obtain ⟨l, j, h1, h2, h3⟩ := cq e
  unfold rng2M at h3
  split at h3
  · rename_i hb
    cases h3
    have w := AY (f := true) (h l h1) (h' j h2) hb
    rw [List.length_map, List.length_range]
    refine jJ w fun i hi => ?_
    rw [List.getElem?_map, List.getElem?_range hi]
    rfl
  · cases h3
theorem sb {m : Option Str} (h : DM H0 ρ te fa (aE K) m) : DWm H0 ρ (iStr te) true (aE K) (b1 ug m) := fun xs e => by
  obtain ⟨z, h1, h2⟩ := cC e
  cases h2
  have w := Dw (f := true) (h z h1)
  rw [List.length_map, Array.length_toList]
  refine jJ w fun i hi => ?_
  rw [List.getElem?_map, Array.getElem?_toList, Array.getElem?_eq_getElem hi, Array.getD_eq_getD_getElem?, Array.getElem?_eq_getElem hi]
  rfl
theorem yT [Enc α] {m : Option (List α)} (h : DM H0 ρ ta f (aE K) m) : DWm H0 ρ (iEnum K (tCons ta tNil)) f (aE K) (b1 gX m) := fun xs e => by
  obtain ⟨us, h1, h3⟩ := cC e
  cases h3
  have w := A6 (h us h1)
  rw [List.length_map] at w
  rw [List.length_map, List.length_zipIdx]
  refine jJ w fun i hi => ?_
  rw [List.getElem?_map, List.getElem?_zipIdx, List.getElem?_eq_getElem hi, List.getD_eq_getElem?_getD, List.getElem?_map, List.getElem?_eq_getElem hi]
  show aD K _ = aD K _
  congr 3
  show PyData.int (i : Int) = PyData.int ((0 + i : Nat) : Int)
  rw [Nat.zero_add]
def lcF {α β : Type} (g : α → Option (Option β)) : List α → Option (List β)
  | [] => some []
  | x :: xs => (g x).bind fun o => (lcF g xs).bind fun ys => some (o.toList ++ ys)
@[irreducible] def lcM {α β : Type} (g : α → Option (Option β)) (xs : List α) : Option (List β) := if xs.length ≤ 100000 then lcF g xs else none
def lcE {β : Type} (mt : Option Bool) (me : Option β) : Option (Option β) := mt.bind fun b => if b = true then me.map some else some none
theorem EnvOk.out2 {σ : St} {H Hr : Hp} (E : EnvOk H0 σ ρ H Hr) (nr : g9 ρ = true) {D : Addr} {o : HO} (hD : ∀ (i : Nat) (B : AbsO) (p : Addr), ρ[i]? = some (.own B) → σ[i]? = some (some (.ref p)) → p ≠ D) (h0 : H0 D = none) (hr : Hr D = none) : EnvOk H0 σ ρ (upd H D o) Hr := by
  refine ⟨fun a u e => ?_, fun a u e => ?_, E.len, fun i s hs => ?_, E.dis, .nil (iw nr)⟩
  · rw [upd_ne (ne_of_none e h0)]; exact E.base _ _ e
  · rw [upd_ne (ne_of_none e hr)]; exact E.sub _ _ e
  · have q := E.slot i s hs
    cases s with
    | no => trivial
    | dat A => exact q
    | new A => exact q
    | reg A => trivial
    | own B =>
      obtain ⟨p, o', e1, e2, e3, e4, e5⟩ := q
      exact ⟨p, o', e1, e2, e3, by rw [upd_ne (hD i B p hs e1)]; exact e4, e5⟩
theorem zm {wi : TI} {n : Nat} {As : Nat → Abs} {g : TG} {tt : TT} {vs : List Nat} {fw : Bool} (hw : DW H0 ρ wi n fw As) (nr : g9 ρ = true) (hn : n ≤ 100000) (e : Nat → Option PyData)
    (hs : ∀ k, k < n → ∃ r', DG H0 (jc ρ vs) g fw (As k) r' vs ∧ DT K H0 r' tt (e k).isSome ∧ ∀ d, e k = some d → DE H0 r' te f (aD K d)) : DE H0 ρ (tLc wi g tt te vs) f (aD K (.list (made e n))) := fun σ H Hr Q E k => by
  refine hw σ H Hr _ E fun J H1 Hr1 x1 wk D hD => ?_
  have E1 := E.ext x1
  have hr1 : Hr1 D = none := x1.s.free hD
  have hd0 : H0 D = none := E1.base.free hD
  have hDo : ∀ (i : Nat) (B : AbsO) (p : Addr), (jc ρ vs)[i]? = some (.own B) → (wipe σ vs)[i]? = some (some (.ref p)) → p ≠ D := fun i B p h1 h2 => by
    obtain ⟨q, o, q1, _, _, q4, _⟩ := (E1.wipe vs).slot i _ h1
    rw [h2] at q1
    cases q1
    exact ne_of_none q4 hD
  let Pv : Nat → Hp → Prop := fun i G => ∃ Gr ys, G D = some (.lst ys) ∧ Gr D = none ∧ EnvOk H0 (wipe σ vs) (jc ρ vs) G Gr ∧ Same Hr1 Gr ∧ Same H1 G ∧ (∀ a o, Gr a = some o → Hr1 a = none → H1 a = none) ∧ DpAll K (hp f Gr H0) ys (made e i)
  have up : Same H1 (upd H1 D (.lst [])) := fun a u q => by rw [upd_ne (ne_of_none q hD)]; exact q
  refine ⟨fun i m G => m = n - i ∧ i ≤ n ∧ Pv i G, ⟨n, by simp, Nat.zero_le _, Hr1, [], upd_same, hr1, (E1.wipe vs).out2 (jX nr vs) hDo hd0 hr1, Same.refl _, up, (fun a o h h' => by rw [h] at h'; cases h'), .nil⟩, ?_⟩
  rintro i m G ⟨rfl, hi, Gr, ys, hG, hGr, EG, s1, s2, nw, dp⟩
  obtain ⟨w1, w2⟩ := wk G Gr s1 EG.sub EG.base
  by_cases hlt : i < n
  · obtain ⟨go, yl⟩ := w1 i hlt
    refine .inr ⟨go, Pv (i + 1), fun G' q => ⟨n - (i + 1), by omega, rfl, hlt, q⟩, fun x G2 y => ?_⟩
    obtain ⟨Gr2, x2, a2⟩ := yl x G2 y
    obtain ⟨r', dg, dt, de⟩ := hs i hlt
    refine dg _ G2 Gr2 x _ (EG.ext x2) a2 fun σ2 E2 ew => ⟨?_, ?_⟩
    · rw [ew]
      clear dg dt de
      have : ∀ (us : List Nat) (τ : St), (∀ v ∈ us, v ∈ vs) → wipe (wipe τ us) vs = wipe τ vs := by
        intro us
        induction us with
        | nil => intro τ _; rfl
        | cons v us ih =>
          intro τ h
          show wipe ((wipe τ us).set v none) vs = _
          rw [kg (h v (by simp))]
          exact ih τ fun v hv => h v (by simp [hv])
      exact this vs σ fun v h => h
    · have keepD : ∀ {A B C1 C2 : Hp}, Ext A B C1 C2 → A D = some (.lst ys) → B D = none → C1 D = some (.lst ys) ∧ C2 D = none := fun {A B C1 C2} xx ha hb => ⟨xx.h _ _ ha, by
        cases q : C2 D with
        | none => rfl
        | some o => have := xx.n D o q hb; rw [ha] at this; cases this⟩
      obtain ⟨d2, e2⟩ := keepD x2 hG hGr
      refine dt σ2 G2 Gr2 _ E2 fun G3 Gr3 x3 => ?_
      obtain ⟨d3, e3⟩ := keepD x3 d2 e2
      have x23 := x2.trans x3
      have nw' : ∀ {C1 C2 : Hp}, Ext G Gr C1 C2 → ∀ a o, C2 a = some o → Hr1 a = none → H1 a = none := fun {C1 C2} xx a o q q' => by
        cases z : Gr a with
        | some u => exact nw a u z q'
        | none => exact s2.free (xx.n a o q z)
      cases he : e i with
      | none =>
        rw [Option.isSome_none, if_neg Bool.false_ne_true]
        refine ⟨Gr3, ys, d3, e3, EG.ext x23, s1.trans x23.r, s2.trans x23.h, nw' x23, ?_⟩
        unfold made
        rw [he]
        show DpAll K _ ys (made e i ++ [])
        rw [List.append_nil]
        exact dpa_mono (cK f H0 x23.r) _ _ dp
      | some d =>
        rw [Option.isSome_some, if_pos rfl]
        refine de d he σ2 G3 Gr3 _ (E2.ext x3) fun y G4 Gr4 x4 a4 => ?_
        obtain ⟨d4, e4⟩ := keepD x4 d3 e3
        have x24 := x23.trans x4
        refine ⟨ys, d4, ?_, Gr4, ys ++ [y], upd_same, e4, (EG.ext x24).out2 (jX nr vs) hDo hd0 e4, s1.trans x24.r, ?_, nw' x24, ?_⟩
        · rw [dD dp]
          have := tA e i
          exact Nat.lt_of_le_of_lt (show _ ≤ 100000 by omega) (by rw [sizeLine_eq]; decide)
        · exact fun a u q => by rw [upd_ne (ne_of_none q hD)]; exact x24.h _ _ (s2 _ _ q)
        · unfold made
          rw [he]
          exact oG (dpa_mono (cK f H0 x24.r) _ _ dp) (.cons a4 .nil)
  · have e' : i = n := by omega
    subst e'
    refine .inl ⟨w2, k (.ref D) G (upd Gr D (.lst ys)) (x1.trans ⟨s2, fun a u q => by rw [upd_ne (ne_of_none q hr1)]; exact s1 _ _ q, fun a u q => ?_, fun a o q q' => ?_⟩) (.lst (SqL.of ?_) (dpa_mono (cK f H0 fun a u q => by rw [upd_ne (ne_of_none q hGr)]; exact q) _ _ dp))⟩
    · by_cases z : a = D
      · subst z; rw [upd_same] at q; cases q; exact hG
      · rw [upd_ne z] at q; exact EG.sub _ _ q
    · by_cases z : a = D
      · subst z; exact hD
      · rw [upd_ne z] at q; exact nw a o q q'
    · cases f
      · exact upd_same
      · exact bu.mpr ⟨hd0, upd_same⟩
theorem ut {α β : Type} {g : α → Option (Option β)} : ∀ {xs : List α} {ys : List β}, lcF g xs = some ys → ∀ (i : Nat) (x : α), xs[i]? = some x → ∃ o, g x = some o
  | [], _, _, i, x, e => by simp at e
  | y :: xs, ys, h, 0, x, e => by
    obtain ⟨o, h1, _⟩ := Option.bind_eq_some_iff.mp h
    simp at e; subst e
    exact ⟨o, h1⟩
  | y :: xs, ys, h, i + 1, x, e => by
    obtain ⟨o, h1, h2⟩ := Option.bind_eq_some_iff.mp h
    obtain ⟨zs, h3, _⟩ := Option.bind_eq_some_iff.mp h2
    exact ut h3 i x (by simpa using e)
theorem qQ (e : Nat → Option PyData) : ∀ n, made e (n + 1) = (e 0).toList ++ made (fun k => e (k + 1)) n
  | 0 => by simp [made]
  | n + 1 => by
    show made e (n + 1) ++ (e (n + 1)).toList = _
    rw [qQ e n, List.append_assoc]
    rfl
theorem vE {α β : Type} [Enc β] {g : α → Option (Option β)} : ∀ {xs : List α} {ys : List β}, lcF g xs = some ys →
    made (fun i => match xs[i]? with | some x => (match g x with | some (some y) => some (en y) | _ => none) | none => none) xs.length = ys.map en
  | [], ys, h => by cases h; rfl
  | x :: xs, ys, h => by
    obtain ⟨o, h1, h2⟩ := Option.bind_eq_some_iff.mp h
    obtain ⟨zs, h3, h4⟩ := Option.bind_eq_some_iff.mp h2
    cases h4
    rw [List.length_cons, qQ]
    have ih := vE h3
    simp only [List.getElem?_cons_zero, List.getElem?_cons_succ, h1]
    rw [ih, List.map_append]
    cases o <;> rfl
theorem iy [Enc β] {Ax : α → Abs} {mit : Option (List α)} {mt : α → Option Bool} {me : α → Option β} {r' : α → List Slot} {wi : TI} {g : TG} {tt : TT} {vs : List Nat} {fw : Bool} (hw : DWm H0 ρ wi fw Ax mit)
    (hg : ∀ x, DG H0 (jc ρ vs) g fw (Ax x) (r' x) vs) (ht : ∀ x, DTm K H0 (r' x) tt (mt x)) (he : ∀ x, DM H0 (r' x) te f (aE K) (me x)) (nr : g9 ρ = true := by rfl) : DM H0 ρ (tLc wi g tt te vs) f (aE K) (b1 (lcM fun x => lcE (mt x) (me x)) mit) := fun ys e => by
  obtain ⟨xs, h1, h2⟩ := cC e
  unfold lcM at h2
  split at h2
  · rename_i hl
    refine jl (zm (hw xs h1) nr hl (fun i => match xs[i]? with | some x => (match lcE (mt x) (me x) with | some (some y) => some (en y) | _ => none) | none => none) fun k hk => ?_) (congrArg PyData.list (vE h2))
    simp only [List.getElem?_eq_getElem hk]
    refine ⟨_, hg xs[k], ?_, fun d hd => ?_⟩
    · obtain ⟨o, ho⟩ := ut h2 k xs[k] (List.getElem?_eq_getElem hk)
      rw [ho]
      obtain ⟨b, hb, ho⟩ := Option.bind_eq_some_iff.mp ho
      cases b with
      | true =>
        rw [if_pos rfl] at ho
        obtain ⟨y, hy, rfl⟩ := Option.map_eq_some_iff.mp ho
        exact ht _ _ hb
      | false =>
        rw [if_neg Bool.false_ne_true] at ho
        cases ho
        exact ht _ _ hb
    · obtain ⟨o, ho⟩ := ut h2 k xs[k] (List.getElem?_eq_getElem hk)
      rw [ho] at hd
      obtain ⟨b, hb, ho⟩ := Option.bind_eq_some_iff.mp ho
      cases b with
      | true =>
        rw [if_pos rfl] at ho
        obtain ⟨y, hy, rfl⟩ := Option.map_eq_some_iff.mp ho
        cases hd
        exact he _ _ hy
      | false =>
        rw [if_neg Bool.false_ne_true] at ho
        cases ho
        cases hd
  · cases h2
end
structure Exn where
  name : Str
  flds : List (Str × Int)
  deriving DecidableEq
def xP (K : PySem.W.Frag) (e : Exn) : XA := fun cls d H => cls = .ref (He.ga K e.name) ∧ (match e.flds with
  | [] => d = none
  | fs => ∃ p, d = some p ∧ H p = some (.xd (fs.map fun q => (q.1, .int q.2))))
inductive Fl (S R : Type) where
  | nx (s : S)
  | rt (r : R)
  | ex (e : Exn)
inductive Rs (R : Type) where
  | ok (r : R)
  | ex (e : Exn)
  deriving DecidableEq
def ah {S1 S R : Type} (m : Option (Fl S1 R)) (k : S1 → Option (Fl S R)) : Option (Fl S R) := m.bind fun fl => match fl with | .nx s => k s | .rt r => some (.rt r) | .ex e => some (.ex e)
@[simp] theorem bindF_nx {S1 S R : Type} {s : S1} {k : S1 → Option (Fl S R)} : ah (some (.nx s)) k = k s := rfl
@[simp] theorem bindF_rt {S1 S R : Type} {r : R} {k : S1 → Option (Fl S R)} : ah (some (.rt r)) k = some (.rt r) := rfl
@[simp] theorem bindF_ex {S1 S R : Type} {e : Exn} {k : S1 → Option (Fl S R)} : ah (some (.ex e)) k = some (.ex e) := rfl
def flR {S R : Type} (A : R → Abs) : Fl S R → Abs
  | .rt r => A r
  | .nx _ => aNo
  | .ex _ => aNo
def flZ {S R : Type} (K : PySem.W.Frag) : Fl S R → List Slot → XA
  | .ex e => fun _ => xP K e
  | .nx _ => fun _ _ _ _ => False
  | .rt _ => fun _ _ _ _ => False
structure WK where
  W : WX
  K : PySem.W.Frag
abbrev wz {S R : Type} (G : WK) (fl : Fl S R) : WZ := ⟨G.W, flZ G.K fl⟩
def DB (G : WK) (H0 : Hp) (ρ : List Slot) (t : TS) {S R : Type} (A : R → Abs) (m : Option (Fl S R)) (B : S → List Slot) : Prop := ∀ fl, m = some fl → DS (wz G fl) H0 ρ t (fun r => ∃ s, fl = .nx s ∧ r = B s) (flR A fl)
inductive Wk1 : Slot → Slot → Prop
  | same {s : Slot} : Wk1 s s
  | drop {s : Slot} : Wk1 s .no
  | low {A : Abs} : Wk1 (sl true A) (sl false A)
inductive Wks : List Slot → List Slot → Prop
  | nil : Wks [] []
  | cons {s s' : Slot} {l l' : List Slot} : Wk1 s s' → Wks l l' → Wks (s :: l) (s' :: l')
theorem Wks.rfl : ∀ {l : List Slot}, Wks l l
  | [] => .nil
  | _ :: _ => .cons .same Wks.rfl
theorem Wks.at : ∀ {l l' : List Slot}, Wks l l' → ∀ (i : Nat) (s' : Slot), l'[i]? = some s' → ∃ s, l[i]? = some s ∧ Wk1 s s'
  | _, _, .nil, i, s', e => by simp at e
  | _, _, .cons h t, 0, s', e => by simp at e; subst e; exact ⟨_, by simp, h⟩
  | _, _, .cons h t, i + 1, s', e => by
    obtain ⟨s, h1, h2⟩ := t.at i s' (by simpa using e)
    exact ⟨s, by simpa using h1, h2⟩
theorem Wks.len : ∀ {l l' : List Slot}, Wks l l' → l.length = l'.length
  | _, _, .nil => by rfl
  | _, _, .cons _ t => by simp [t.len]
theorem ub {s : Slot} {B : AbsO} (h : Wk1 s (.own B)) : s = .own B := by
  cases h; rfl
theorem EnvOk.wk {H0 : Hp} {σ : St} {ρ ρ' : List Slot} {H Hr : Hp} (E : EnvOk H0 σ ρ H Hr) (w : Wks ρ ρ') : EnvOk H0 σ ρ' H Hr := by
  refine ⟨E.base, E.sub, by rw [E.len, w.len], fun i s hs => ?_, fun i j p B B' hij hi hj ei ej => ?_, E.reg.to (fun i A h => by
    obtain ⟨s0, h1, h2⟩ := w.at i _ h
    cases h2
    exact ⟨h1, rfl⟩) (fun a o h1 h2 h3 _ => ⟨h1, h2, h3⟩) fun j B p h hs => by
    obtain ⟨s0, h1, h2⟩ := w.at j _ h
    have e := ub h2
    subst e
    exact .inl ⟨B, h1, hs⟩⟩
  · obtain ⟨s0, h1, h2⟩ := w.at i s hs
    have q := E.slot i s0 h1
    cases h2 with
    | same => exact q
    | drop => trivial
    | low => obtain ⟨v, e, a⟩ := q; exact ⟨v, e, Abs.mono _ _ _ _ jg a⟩
  · obtain ⟨s0, h1, h2⟩ := w.at i _ hi
    obtain ⟨s1, h3, h4⟩ := w.at j _ hj
    have e1 := ub h2
    have e2 := ub h4
    subst e1 e2
    exact E.dis i j p B B' hij h1 h3 ei ej
def cD {α S R : Type} (b : α → S → Option (Fl S R)) : List α → S → Option (Fl S R)
  | [], s => some (.nx s)
  | x :: xs, s => ah (b x s) fun s' => cD b xs s'
def gZ {S R : Type} (c : S → Option Bool) (b : S → Option (Fl S R)) : Nat → S → Option (Fl S R)
  | 0, _ => none
  | n + 1, s => (c s).bind fun t => if t = true then ah (b s) fun s' => gZ c b n s' else some (.nx s)
@[irreducible] def fuelN : Nat := 100000
def ba {S R : Type} (m : Option (Fl S R)) : Option R := m.bind fun fl => match fl with | .rt r => some r | _ => none
def jr {S : Type} (m : Option (Fl S Unit)) : Option Unit := m.bind fun fl => match fl with | .ex _ => none | _ => some ()
def AJ {S R : Type} (m : Option (Fl S (Option R))) : Option (Option R) := m.bind fun fl => match fl with | .rt r => some r | .nx _ => some none | .ex _ => none
def ig {S R : Type} (m : Option (Fl S R)) : Option (Rs R) := m.bind fun fl => match fl with | .rt r => some (.ok r) | .ex e => some (.ex e) | .nx _ => none
def eY {S : Type} (m : Option (Fl S Unit)) : Option (Rs Unit) := m.bind fun fl => match fl with | .ex e => some (.ex e) | _ => some (.ok ())
def Hq {S R : Type} (m : Option (Fl S (Option R))) : Option (Rs (Option R)) := m.bind fun fl => match fl with | .rt r => some (.ok r) | .nx _ => some (.ok none) | .ex e => some (.ex e)
@[simp] theorem finF_rt {S R : Type} {r : R} : ba (some (.rt r) : Option (Fl S R)) = some r := rfl
@[simp] theorem finN_nx {S : Type} {r : S} : jr (some (.nx r : Fl S Unit)) = some () := rfl
@[simp] theorem finN_rt {S : Type} {r : Unit} : jr (some (.rt r : Fl S Unit)) = some () := rfl
@[simp] theorem finO_nx {S R : Type} {r : S} : AJ (some (.nx r : Fl S (Option R))) = some none := rfl
@[simp] theorem finO_rt {S R : Type} {r : Option R} : AJ (some (.rt r : Fl S (Option R))) = some r := rfl
@[simp] theorem finX_rt {S R : Type} {r : R} : ig (some (.rt r) : Option (Fl S R)) = some (.ok r) := rfl
@[simp] theorem finX_ex {S R : Type} {e : Exn} : ig (some (.ex e) : Option (Fl S R)) = some (.ex e) := rfl
@[simp] theorem finXN_nx {S : Type} {r : S} : eY (some (.nx r : Fl S Unit)) = some (.ok ()) := rfl
@[simp] theorem finXN_rt {S : Type} {r : Unit} : eY (some (.rt r : Fl S Unit)) = some (.ok ()) := rfl
@[simp] theorem finXN_ex {S : Type} {e : Exn} : eY (some (.ex e : Fl S Unit)) = some (.ex e) := rfl
def kU {α β : Type} (xs : List α) (x : α) (k : List α → Option β) : Option β := if xs.length < 100000 then k (xs ++ [x]) else none
section
variable {G : WK} {C : WZ} {H0 : Hp} {ρ ρ' : List Slot} {K : PySem.W.Frag} {f fa fb fc : Bool} {ta tb tc te : TE} {α β γ δ S S1 R : Type} {A : R → Abs} {B : S → List Slot} {t u w : TS}
theorem Cf {N : List Slot → Prop} {Rr : Abs} (w : Wks ρ ρ') (h : DS C H0 ρ' t N Rr) : DS C H0 ρ t N Rr := fun σ H Hr D E kn kr kx => h σ H Hr D (E.wk w) kn kr kx
theorem pP {N : List Slot → Prop} {Rr : Abs} (h : DS C H0 ρ t N aNo) : DS C H0 ρ t N Rr := fun σ H Hr D E kn kr kx => h σ H Hr D E kn (fun v H' s _ z => z.elim) kx
theorem lT {m : Option (Fl S1 R)} {k : S1 → Option (Fl S R)} {fl : Fl S R} (h : ah m k = some fl) : (∃ s, m = some (.nx s) ∧ k s = some fl) ∨ (∃ r, m = some (.rt r) ∧ fl = .rt r) ∨ ∃ e, m = some (.ex e) ∧ fl = .ex e := by
  obtain ⟨x, h1, h2⟩ := Option.bind_eq_some_iff.mp h
  cases x with
  | nx s => exact .inl ⟨s, h1, h2⟩
  | rt r => cases h2; exact .inr (.inl ⟨r, h1, rfl⟩)
  | ex e => cases h2; exact .inr (.inr ⟨e, h1, rfl⟩)
theorem uM {W : WX} {Z : List Slot → XA} {N : List Slot → Prop} {Rr : Abs} (h : DS ⟨W, fun _ _ _ _ => False⟩ H0 ρ t N Rr) : DS ⟨W, Z⟩ H0 ρ t N Rr := fun σ H Hr D E kn kr kx => h σ H Hr D E kn kr (KX.no fun _ _ _ _ z => z)
theorem FV {m : Option (Fl S R)} (w : Wks ρ ρ') (h : DB G H0 ρ' t A m B) : DB G H0 ρ t A m B := fun fl e => Cf w (h fl e)
theorem cr {s : S} (w : Wks ρ (B s)) : DB G H0 ρ tNext A (some (.nx s)) B := fun fl e => by
  cases e
  exact Cf w (A9 ⟨s, rfl, rfl⟩)
theorem mN : DB G H0 ρ t A (none : Option (Fl S R)) B := fun fl e => by cases e
theorem pV {m : Option (Fl S1 R)} {k : S1 → Option (Fl S R)} {B1 : S1 → List Slot} (h : DB G H0 ρ t A m B1) (hk : ∀ s, DB G H0 (B1 s) u A (k s) B) : DB G H0 ρ (tSeq t u) A (ah m k) B := fun fl e => by
  rcases lT e with ⟨s, h1, h2⟩ | ⟨r, h1, rfl⟩ | ⟨x, h1, rfl⟩
  · refine pO (uM (pP (h _ h1))) fun r hr => ?_
    obtain ⟨s', e1, rfl⟩ := hr
    cases e1
    exact hk s fl h2
  · refine pO (h _ h1) fun r hr => ?_
    obtain ⟨s', e1, _⟩ := hr
    cases e1
  · refine pO (h _ h1) fun r hr => ?_
    obtain ⟨s', e1, _⟩ := hr
    cases e1
theorem cV {i : Nat} {Ax : α → Abs} {m : Option α} {k : α → Option (Fl S R)} (h : DM H0 ρ te f Ax m) (hk : ∀ x, DB G H0 (ρ.set i (sl f (Ax x))) u A (k x) B) (hi : Nat.blt i ρ.length = true := by rfl) : DB G H0 ρ (tSeq (tAsg te (gName i)) u) A (b1 k m) B := fun fl e => by
  obtain ⟨x, h1, h2⟩ := cC e
  exact mK (DF (h x h1) hi) (hk x fl h2)
theorem BE {Ax : α → Abs} {m : Option α} {k : Option (Fl S R)} (h : DM H0 ρ te f Ax m) (hk : DB G H0 ρ u A k B) : DB G H0 ρ (tSeq (tDrop te) u) A (b1 (fun _ => k) m) B := fun fl e => by
  obtain ⟨x, h1, h2⟩ := cC e
  exact mK (vV (h x h1)) (hk fl h2)
theorem ck {m : Option R} (h : DM H0 ρ te true A m) : DB G H0 ρ (tSeq (tRet te) u) A (b1 (fun r => some (Fl.rt r : Fl S R)) m) B := fun fl e => by
  obtain ⟨x, h1, h2⟩ := cC e
  cases h2
  exact le (h x h1) fun v G z => z
theorem eN {ct : TT} {mc : Option Bool} {m1 m2 : Option (Fl S1 R)} {k : S1 → Option (Fl S R)} {B1 : S1 → List Slot} (hc : DTm K H0 ρ ct mc) (h1 : DB G H0 ρ t A m1 B1) (h2 : DB G H0 ρ w A m2 B1) (hk : ∀ s, DB G H0 (B1 s) u A (k s) B) :
    DB G H0 ρ (tSeq (tIfS ct t w) u) A (ah (a9 mc m1 m2) k) B := by
  refine pV (B1 := B1) (fun fl e => ?_) hk
  obtain ⟨c, e1, e2⟩ := Option.bind_eq_some_iff.mp e
  refine Cg (hc c e1) (fun z => ?_) (fun z => ?_)
  · subst z; exact h1 fl e2
  · subst z; exact h2 fl e2
theorem u3 [Enc α] {i : Nat} {k : List α → Option (Fl S R)} (hk : ∀ x : List α, DB G H0 (ρ.set i (.own (oE K x))) u A (k x) B) (hi : Nat.blt i ρ.length = true := by rfl) : DB G H0 ρ (tSeq (tAsg (tLst tNil) (gName i)) u) A (b1 k (some ([] : List α))) B := fun fl e => mK (DI hi) (hk [] fl e)
theorem pW [Enc α] {i : Nat} {xs : List α} {m : Option α} {k : List α → Option (Fl S R)} (hi : ρ[i]? = some (.own (oE K xs))) (h : DM H0 ρ te true (aE K) m) (hk : ∀ x : List α, DB G H0 (ρ.set i (.own (oE K x))) u A (k x) B) : DB G H0 ρ (tSeq (tDrop (tBM K "list" rAppend (tVar i) (tCons te tNil))) u) A (b1 (fun x => kU xs x k) m) B := fun fl e => by
  obtain ⟨y, h1, h2⟩ := cC e
  unfold kU at h2
  split at h2
  · rename_i hl
    have d := DK (C := wz G fl) (R := flR A fl) hi (h y h1) (by rw [List.length_map]; exact hl)
    rw [show xs.map en ++ [en y] = (xs ++ [y]).map en by simp] at d
    exact mK d (hk _ fl h2)
  · cases h2
theorem u4 {m : Option (Fl S R)} (bo : Bo H0 ρ ρ') (h : DB G H0 ρ' t A m B) : DB G H0 ρ t A m B := fun fl e => DJ bo (h fl e)
theorem A_ {wi : TI} {n : Nat} {As : Nat → Abs} {g : TG} {tb : TS} {Rr : Abs} {ρ0 : List Slot} (hw : DW H0 ρ wi n f As) (I : Nat → List Slot → Prop) (w0 : Wks ρ ρ0) (h0 : I 0 ρ0)
    (hs : ∀ (k : Nat) (r : List Slot), k < n → I k r → ∃ r' vs, DG H0 r g f (As k) r' vs ∧ DS C H0 r' tb (I (k + 1)) Rr) : DS C H0 ρ (tFor wi g tb) (I n) Rr := fun σ H Hr D E kn kr kx => by
  refine hw σ H Hr _ E fun J H1 Hr1 x1 wk => ?_
  refine ⟨fun i m σ' H' => m = n - i ∧ i ≤ n ∧ ∃ r Hr', I i r ∧ EnvOk H0 σ' r H' Hr' ∧ Same Hr1 Hr', ⟨n, by simp, Nat.zero_le _, ρ0, Hr1, h0, (E.ext x1).wk w0, Same.refl _⟩, ?_⟩
  rintro i m σ' H' ⟨rfl, hi, r, Hr', i', E', s⟩
  obtain ⟨w1, w2⟩ := wk H' Hr' s E'.sub E'.base
  by_cases hlt : i < n
  · obtain ⟨go, yl⟩ := w1 i hlt
    refine .inr ⟨go, fun σ2 H2 => ∃ r Hr', I (i + 1) r ∧ EnvOk H0 σ2 r H2 Hr' ∧ Same Hr1 Hr', fun σ2 H2 q => ⟨n - (i + 1), by omega, rfl, hlt, q⟩, fun x H2 y => ?_⟩
    obtain ⟨Hr2, x2, a2⟩ := yl x H2 y
    obtain ⟨r', vs, dg, ds⟩ := hs i r hlt i'
    exact dg σ' H2 Hr2 x _ (E'.ext x2) a2 fun σ2 E2 _ => ds σ2 H2 Hr2 _ E2 (fun r3 σ3 H3 Hr3 n3 E3 s3 => ⟨r3, Hr3, n3, E3, (s.trans x2.r).trans s3⟩) (kr.up (x1.r.trans (s.trans x2.r))) (kx.up (x1.r.trans (s.trans x2.r)))
  · have e : i = n := by omega
    subst e
    exact .inl ⟨w2, kn r σ' H' Hr' i' E' (x1.r.trans s)⟩
theorem il {Ax : α → Abs} {mit : Option (List α)} {wi : TI} {g : TG} {tb : TS} {vs : List Nat} {body : α → S1 → Option (Fl S1 R)} {s0 : S1} {k : S1 → Option (Fl S R)} {B1 : S1 → List Slot} {r' : α → S1 → List Slot}
    (hw : DWm H0 ρ wi f Ax mit) (w0 : Wks ρ (B1 s0)) (hg : ∀ x s, DG H0 (B1 s) g f (Ax x) (r' x s) vs) (hb : ∀ x s, DB G H0 (r' x s) tb A (body x s) B1) (hk : ∀ s, DB G H0 (B1 s) u A (k s) B) :
    DB G H0 ρ (tSeq (tFor wi g tb) u) A (ah (b1 (fun xs => cD body xs s0) mit) k) B := by
  refine pV (B1 := B1) (fun fl e => ?_) hk
  obtain ⟨xs, h1, h2⟩ := cC e
  have d := A_ (C := wz G fl) (Rr := flR A fl) (tb := tb) (g := g) (ρ0 := B1 s0) (hw xs h1) (fun i r => ∃ s, r = B1 s ∧ cD body (xs.drop i) s = some fl) w0 ⟨s0, rfl, h2⟩ ?_
  · refine gm d ?_
    rintro r ⟨s, rfl, h3⟩
    rw [List.drop_length] at h3
    cases h3
    exact ⟨s, rfl, rfl⟩
  · rintro i r hi ⟨s, rfl, h3⟩
    rw [List.drop_eq_getElem_cons hi] at h3
    simp only [List.getElem?_eq_getElem hi]
    refine ⟨_, vs, hg xs[i] s, ?_⟩
    rcases lT h3 with ⟨s', e1, e2⟩ | ⟨r, e1, rfl⟩ | ⟨r, e1, rfl⟩
    · refine gm (uM (pP (hb _ _ _ e1))) ?_
      rintro r ⟨s2, e3, rfl⟩
      cases e3
      exact ⟨s', rfl, e2⟩
    · refine gm (hb _ _ _ e1) ?_
      rintro r ⟨s2, e3, _⟩
      cases e3
    · refine gm (hb _ _ _ e1) ?_
      rintro r ⟨s2, e3, _⟩
      cases e3
theorem zu {ct : TT} {tb : TS} {c : S1 → Option Bool} {body : S1 → Option (Fl S1 R)} {n : Nat} {s0 : S1} {k : S1 → Option (Fl S R)} {B1 : S1 → List Slot} (w0 : Wks ρ (B1 s0)) (hc : ∀ s, DTm K H0 (B1 s) ct (c s)) (hb : ∀ s, DB G H0 (B1 s) tb A (body s) B1) (hk : ∀ s, DB G H0 (B1 s) u A (k s) B) :
    DB G H0 ρ (tSeq (tWhile ct tb) u) A (ah (gZ c body n s0) k) B := by
  refine FV w0 (pV (B1 := B1) (fun fl e => ?_) hk)
  refine yW (C := wz G fl) (K := K) (fun m r => ∃ s, r = B1 s ∧ gZ c body m s = some fl) n ⟨s0, rfl, e⟩ ?_
  rintro m r ⟨s, rfl, h⟩
  cases m with
  | zero => cases h
  | succ m =>
    obtain ⟨b, h1, h2⟩ := Option.bind_eq_some_iff.mp h
    refine ⟨b, hc s b h1, fun z => ?_, fun z => ?_⟩
    · subst z
      rw [if_pos rfl] at h2
      rcases lT h2 with ⟨s', e1, e2⟩ | ⟨r, e1, rfl⟩ | ⟨r, e1, rfl⟩
      · refine gm (uM (pP (hb _ _ e1))) ?_
        rintro r ⟨s2, e3, rfl⟩
        cases e3
        exact ⟨m, Nat.lt_succ_self _, s', rfl, e2⟩
      · refine gm (hb _ _ e1) ?_
        rintro r ⟨s2, e3, _⟩
        cases e3
      · refine gm (hb _ _ e1) ?_
        rintro r ⟨s2, e3, _⟩
        cases e3
    · subst z
      rw [if_neg Bool.false_ne_true] at h2
      cases h2
      exact ⟨s, rfl, rfl⟩
theorem du {m : Option (Fl S R)} {c : R} {N : List Slot → Prop} (h : DB ⟨C0.W, K⟩ H0 ρ t A m B) (e : ba m = some c) : DS C0 H0 ρ t N (A c) := by
  obtain ⟨fl, h1, h2⟩ := Option.bind_eq_some_iff.mp e
  cases fl with
  | nx s => cases h2
  | rt r => cases h2; exact gm (h _ h1) fun r ⟨s, e, _⟩ => by cases e
  | ex r => cases h2
theorem v7 {m : Option (Fl S Unit)} {c : Unit} (h : DB ⟨C0.W, K⟩ H0 ρ t (aE K) m B) (e : jr m = some c) : DS C0 H0 ρ t (fun _ => ∀ G, (aE K c).p .non G) (aE K c) := by
  obtain ⟨fl, h1, h2⟩ := Option.bind_eq_some_iff.mp e
  cases fl with
  | nx s => exact gm (pP (h _ h1)) fun r _ G => .non
  | rt r => exact gm (h _ h1) fun r ⟨s, e, _⟩ => by cases e
  | ex r => cases h2
end
section
variable {P : Program} {w : World} {K : PySem.W.Frag} {mg : Str → Option Value} {base : Heap}
theorem d_ {x qual : Str} {st : Stmt} {f : Addr} {fd : FuncData} {N ps : List Str} {k : Nat} {S : Spec} (F : FnP K x qual st f fd) (Sc : FnScope N ps (defScope st)) (len : ∀ As R, S As R → As.length = ps.length)
    (body : ∀ (cdv : Value) (A : Around) (outer : List Env) (s : Shared) (H : Hp) (E : XK), Room k (A.deeper (PyProof.Rows.envOfC qual (defScope st) s.heap.objs.size f cdv)) →
      ∃ t, PSs (cxOf CX0 P w K mg base N qual (defScope st) f cdv A outer s H E).nox (defBody st) t ∧ ∀ H0 As R, S As R → DS C0 H0 (As.map Slot.dat ++ List.replicate (N.length - As.length) Slot.no) t (fun _ => ∀ G, R.p .non G) R) : FnOk P w K mg base CX0 (k + 1) f fd ps (spF S) := by
  refine F.ok Sc (fun vs H Q E h => ?_) (fun cdv A outer s H vs Q E hr h => ?_)
  · obtain ⟨As, R, h1, h2, _⟩ := h
    rw [← h2.length]; exact len As R h1
  · obtain ⟨As, R, h1, h2, h3⟩ := h
    obtain ⟨t, p, d⟩ := body cdv A outer s H E hr
    refine ⟨t, p.nox, d H As R h1 _ H H _ ?_ (fun _ _ H' _ n E' _ => h3 .non H' E'.base (n _)) (fun v H' s _ r => h3 v H' s r) (KX.no fun _ _ _ _ z => z)⟩
    have e := gW (n := N.length - vs.length) h2
    unfold L2.start
    rw [h2.length]
    exact e
theorem At {x qual : Str} {st : Stmt} {f : Addr} {fd : FuncData} {N : List Str} {p : Str} {k : Nat} {F' : List Int → Option Bool} (F : FnP K x qual st f fd) (Sc : FnScope N [p] (defScope st)) (hL : ∀ ns : List Int, ns.length ≤ 63 → F' ns = some true)
    (body : ∀ (cdv : Value) (A : Around) (outer : List Env) (s : Shared) (H : Hp) (E : XK), Room k (A.deeper (PyProof.Rows.envOfC qual (defScope st) s.heap.objs.size f cdv)) →
      ∃ t, PSs (cxOf CX0 P w K mg base N qual (defScope st) f cdv A outer s H E).nox (defBody st) t ∧ ∀ H0 As R, sp1 (aE K) (aE K) F' As R → DS C0 H0 (As.map Slot.dat ++ List.replicate (N.length - As.length) Slot.no) t (fun _ => ∀ G, R.p .non G) R) : FnOk P w K mg base CX0 (k + 1) f fd [p] (spL K) := by
  refine Au F Sc fun cdv A outer s H E hr ns hl => ?_
  obtain ⟨t, q, d⟩ := body cdv A outer s H E hr
  refine ⟨t, q, fun H0 => ?_⟩
  have e := d H0 [aE K ns] (aE K true) ⟨ns, true, rfl, hL ns hl, rfl⟩
  exact gm e fun r z => by cases z (fun _ => none)
end
end Kj

namespace Kj
open PySem L2
def E7 {α : Type} (xs : List α) : Option (List α) := some xs.reverse
def De {S R : Type} (m : Option (Fl S R)) : Option S := m.bind fun fl => match fl with | .nx s => some s | _ => none
section
variable {Gw : WK} {H0 : Hp} {ρ ρ' : List Slot} {K : PySem.W.Frag} {f fa fb fc : Bool} {ta tb tc te : TE} {α β γ δ S S1 R : Type} {A : R → Abs} {B : S → List Slot} {t u w : TS}
end
section
variable {X : Cx} {K : PySem.W.Frag}
theorem bt (h : X.K = K) : IxR X (rIxL K) := by subst h; exact ix_list
theorem rK (h : X.K = K) : IxR X (rIxT K) := by subst h; exact ix_tup
theorem cc (h : X.K = K) : SlR X (rSlL K) := by subst h; exact sl_list
theorem dU (h : X.K = K) : OpR X (binaryOp .Add) (vv K) := by subst h; exact Ac
theorem oy (h : X.K = K) (hu : X.A.units + 64 < cLine) : OpR X (compareOp .Eq) (CH K) := by subst h; exact CQ hu
theorem vy (h : X.K = K) (hu : X.A.units + 64 < cLine) : OpR X (compareOp .NotEq) (CF K) := by subst h; exact CO hu
theorem Ab (h : X.K = K) (hu : X.A.units + 64 < cLine) : OpR X (compareOp .In) (CG K) := by subst h; exact CP hu
theorem b_ (h : X.K = K) : CallR X (.builtin "len") (fun xs H Q => ∃ x n, xs = [x] ∧ LenV K x H n ∧ Q (.int n) H) := by subst h; exact call_len
theorem jb (h : X.K = K) : CallR X (.type "list") (fun xs H Q => ∃ p ys, xs = [.ref p] ∧ (SqL K H p ys ∨ SqT K H p ys) ∧ ∀ l, H l = none → Q (.ref l) (upd H l (.lst ys))) := by subst h; exact call_list_of
theorem fj (h : X.K = K) : CallR X (.builtin "isinstance") (rIsi K) := by subst h; exact call_isi
theorem j4 (h : X.K = K) (hc : X.calm = true) : CallR X (.builtin "all") (rAll K) := by subst h; exact cr_all hc
variable {e e2 tg : Expr} {te : TE} {ta : TA} {p pos apos tpos : Pos} {elts : List Expr} {kk : Nat} {o : Expr} {to : TE}
theorem f8 (h : X.K = K) (hl : PE X e te) : PI X tg e (iList K te) := by subst h; exact pi_list hl
theorem xS (h : X.K = K) (hg : Gl X "enumerate") (hm : X.mg "enumerate" = none) (ha : PA X [e] ta) (hs : starEach [e] X.env = [(false, eval e X.env)] := by rfl) :
    PI X (.Tuple elts kk tpos) (.Call (.Name "enumerate" p) [e] [] pos) (iEnum K ta) := by subst h; exact pi_enum hg hm ha hs
theorem gj {f : Str} (h : X.K = K) (he : PE X e te) (hb : attributeBase e f X.env (eval e X.env) = eval e X.env) : PE X (.Attribute e f pos) (tFld K te f) := by subst h; exact pe_fld he hb
theorem sT (h : X.K = K) (ho : PE X o to) (he : PE X e te) (hs : starEach [e] X.env = [(false, eval e X.env)] := by rfl) (hbase : attributeBase o "join" X.env (eval o X.env) = eval o X.env := by rfl) (hline : (apos.endLine == pos.line) = true := by rfl) :
    PE X (.Call (.Attribute o "join" apos) [e] [] pos) (tM1 (fun x xs H Q => ∃ a p, ∃ ys : List Str, x = .str a ∧ xs = [.ref p] ∧ (SqL K H p (ys.map V.str) ∨ SqT K H p (ys.map V.str)) ∧
      (ys.map (·.length)).sum + ys.length * a.length ≤ 16777216 ∧ Q (.str (Txt.join a ys)) H) to te) := by subst h; exact pe_join ho he hs hbase hline
end
end Kj

namespace Kj
open PySem L2
open Classical in
noncomputable def fX (d e : PyData) : Bool := decide (d = e)
theorem iX {d e : PyData} : fX d e = true ↔ d = e := by unfold fX; exact @decide_eq_true_iff _ (Classical.propDecidable _)
theorem iu {d e : PyData} (h : d ≠ e) : fX d e = false := by unfold fX; exact @decide_eq_false _ (Classical.propDecidable _) h
theorem lI (d : PyData) : fX d d = true := iX.mpr rfl
mutual
def gn : PyData → Bool
  | .list xs => decide (xs.length ≤ 100000) && smallAll xs
  | .tuple xs => decide (xs.length ≤ 100000) && smallAll xs
  | _ => true
def smallAll : List PyData → Bool
  | [] => true
  | x :: xs => gn x && smallAll xs
end
theorem jU : ∀ xs : List PyData, smallAll xs = true ↔ ∀ x ∈ xs, gn x = true
  | [] => by simp [smallAll]
  | x :: xs => by simp [smallAll, jU xs]
theorem wp {ds : List PyData} (h : smallAll ds = true) (i : Nat) : gn (ds.getD i .none) = true := by
  rw [List.getD_eq_getElem?_getD]
  cases e : ds[i]? with
  | none => simp [gn]
  | some d => exact (jU ds).mp h d (List.mem_of_getElem? e)
def jy (K : PySem.W.Frag) (n : Nat) : Spec := fun As R => ∃ d e : PyData, As = [aD K d, aD K e] ∧ d.plain = true ∧ e.plain = true ∧ d.depth < n ∧ e.depth < n ∧ gn e = true ∧ R = aD K (.bool (fX d e))
theorem AE {P : Program} {w : World} {K : PySem.W.Frag} {mg : Str → Option Value} {base : Heap} {k : Nat} {f : Addr} {fd : FuncData} {ps : List Str} {S : Spec} (h : ∀ As R, ¬ S As R) : FnOk P w K mg base CX0 k f fd ps (spF S) :=
  ⟨fun vs H Q E hs => by obtain ⟨As, R, z, _⟩ := hs; exact (h _ _ z).elim, fun A outer s H args us vs Q E hr he hb hv hs => by obtain ⟨As, R, z, _⟩ := hs; exact (h _ _ z).elim⟩
def tK : PyData → Bool | .list _ => true | _ => false
def tJ : PyData → Bool | .tuple _ => true | _ => false
def yu : PyData → Bool | .bool _ => true | _ => false
def Az : PyData → Bool | .str _ => true | _ => false
def wN : PyData → Bool | .bool _ => true | .int _ => true | _ => false
section
variable {d : PyData} (h : d.plain = true)
include h
theorem uv : kitB (tyN d) "list" = some (tK d) := by cases d <;> first | rfl | cases h
theorem uu : kitB (tyN d) "tuple" = some (tJ d) := by cases d <;> first | rfl | cases h
theorem yq : kitB (tyN d) "bool" = some (yu d) := by cases d <;> first | rfl | cases h
theorem yo : kitB (tyN d) "str" = some (Az d) := by cases d <;> first | rfl | cases h
theorem yp : kitB (tyN d) "int" = some (wN d) := by cases d <;> first | rfl | cases h
end
section
variable {H0 : Hp} {ρ : List Slot} {K : PySem.W.Frag} {f fa fb : Bool} {ta tb te : TE}
theorem AX {ds es : List PyData} {b : Bool} (h : DE H0 ρ ta f (aD K (if b then .list ds else .tuple ds))) (h' : DE H0 ρ tb f (aD K (if b then .list es else .tuple es))) : DW H0 ρ (RZ.iZipA K (tCons ta (tCons tb tNil))) (min ds.length es.length) f (fun i => aD K (.tuple [ds.getD i .none, es.getD i .none])) := fun σ H Hr R E k => by
  refine h σ H Hr _ E fun v H1 Hr1 x1 a1 => h' σ H1 Hr1 _ (E.ext x1) fun v2 H2 Hr2 x2 a2 => ?_
  cases b with
  | true =>
    have dz := Du (H0 := H0) (ρ := ρ) (f := f) (K := K) (ta := fun _ H Q => Q v H) (tb := fun _ H Q => Q v2 H) (ds := ds) (es := es)
    rw [if_pos rfl] at a1 a2
    cases a1 with
    | @lst a xs _ hq hA =>
      cases a2 with
      | @lst b ys _ hq2 hB =>
        have hA2 := dpa_mono (cK f H0 x2.r) _ _ hA
        refine ⟨a, b, xs, ys, rfl, .inl ⟨((bD f).trans (x2.r.trans x2.s)).seq hq, ((bD f).trans x2.s).seq hq2, k _ H2 Hr2 (x1.trans x2) fun G Gr s1 s2 s3 => ?_⟩⟩
        have q1 : SqL K G a xs := ((bD f).trans (x2.r.trans (s1.trans s2))).seq hq
        have q2 : SqL K G b ys := ((bD f).trans (s1.trans s2)).seq hq2
        have l1 := dD hA
        have l2 := dD hB
        refine ⟨fun i hi => ⟨⟨xs, ys, xs[i]'(by omega), ys[i]'(by omega), q1, q2, List.getElem?_eq_getElem _, List.getElem?_eq_getElem _⟩, ?_⟩, ⟨xs, ys, q1, q2, by omega⟩⟩
        rintro v G' ⟨T, x, y, rfl, hT, rfl, hx, hy⟩
        obtain ⟨d, e1, e2⟩ := hU hA2 (hx xs q1)
        obtain ⟨e, e3, e4⟩ := hU hB (hy ys q2)
        have xt : Ext G Gr (upd G T (.tup [x, y])) (upd Gr T (.tup [x, y])) := Ext.lay s2 hT
        refine ⟨_, xt, ?_⟩
        show Dp K _ (.ref T) (.tuple [ds.getD i .none, es.getD i .none])
        rw [List.getD_eq_getElem?_getD, List.getD_eq_getElem?_getD, e1, e3]
        refine .tup (SqT.of (ie f s3 hT)) (.cons (dE (cK f H0 (s1.trans xt.r)) _ _ e2) (.cons (dE (cK f H0 (s1.trans xt.r)) _ _ e4) .nil))
  | false =>
    rw [if_neg Bool.false_ne_true] at a1 a2
    cases a1 with
    | @tup a xs _ hq hA =>
      cases a2 with
      | @tup b ys _ hq2 hB =>
        have hA2 := dpa_mono (cK f H0 x2.r) _ _ hA
        refine ⟨a, b, xs, ys, rfl, .inr ⟨l4 ((bD f).trans (x2.r.trans x2.s)) hq, l4 ((bD f).trans x2.s) hq2, k _ H2 Hr2 (x1.trans x2) fun G Gr s1 s2 s3 => ?_⟩⟩
        have q1 : SqT K G a xs := l4 ((bD f).trans (x2.r.trans (s1.trans s2))) hq
        have q2 : SqT K G b ys := l4 ((bD f).trans (s1.trans s2)) hq2
        have l1 := dD hA
        have l2 := dD hB
        refine ⟨fun i hi => ⟨⟨xs, ys, xs[i]'(by omega), ys[i]'(by omega), q1, q2, List.getElem?_eq_getElem _, List.getElem?_eq_getElem _⟩, ?_⟩, ⟨xs, ys, q1, q2, by omega⟩⟩
        rintro v G' ⟨T, x, y, rfl, hT, rfl, hx, hy⟩
        obtain ⟨d, e1, e2⟩ := hU hA2 (hx xs q1)
        obtain ⟨e, e3, e4⟩ := hU hB (hy ys q2)
        have xt : Ext G Gr (upd G T (.tup [x, y])) (upd Gr T (.tup [x, y])) := Ext.lay s2 hT
        refine ⟨_, xt, ?_⟩
        show Dp K _ (.ref T) (.tuple [ds.getD i .none, es.getD i .none])
        rw [List.getD_eq_getElem?_getD, List.getD_eq_getElem?_getD, e1, e3]
        refine .tup (SqT.of (ie f s3 hT)) (.cons (dE (cK f H0 (s1.trans xt.r)) _ _ e2) (.cons (dE (cK f H0 (s1.trans xt.r)) _ _ e4) .nil))
end
theorem zH : ∀ ds es : List PyData, ds.length = es.length → ((List.range (min ds.length es.length)).map fun i => fX (ds.getD i .none) (es.getD i .none)).all id = decide (fX (.list ds) (.list es) = true) := fun ds es hl => by
  rw [Bool.eq_iff_iff, List.all_eq_true, decide_eq_true_iff, iX]
  constructor
  · intro h
    congr 1
    apply List.ext_getElem hl
    intro i h1 h2
    have := h (fX (ds.getD i .none) (es.getD i .none)) (List.mem_map.mpr ⟨i, List.mem_range.mpr (by omega), rfl⟩)
    rw [id, iX, List.getD_eq_getElem?_getD, List.getD_eq_getElem?_getD, List.getElem?_eq_getElem h1, List.getElem?_eq_getElem h2] at this
    exact this
  · intro h b hb
    obtain ⟨i, _, rfl⟩ := List.mem_map.mp hb
    cases h
    exact lI _
def ez {α : Type} [Enc α] [DecidableEq α] (x y : α) : Option Bool := if gn (en y) = true then some (decide (x = y)) else none
theorem Ds {α : Type} [Enc α] {x y : α} (h : en x = en y) : x = y := by
  refine (Enc.eqv x y).mp ?_
  rw [show Enc.enc x = Enc.enc y from h]
  exact (Enc.eqv y y).mpr rfl
theorem ky {α : Type} [Enc α] [DecidableEq α] (x y : α) : fX (en x) (en y) = decide (x = y) := by
  by_cases h : x = y
  · subst h; rw [lI, decide_eq_true rfl]
  · rw [iu fun z => h (Ds z), decide_eq_false h]
theorem si {H0 : Hp} {ρ ρ' : List Slot} {K : PySem.W.Frag} {fa fb : Bool} {ta tb : TE} {α : Type} {Ex : XK} [Enc α] [DecidableEq α] {ma mb : Option α} (bo : Bo H0 ρ ρ') (h1 : DM H0 ρ' ta fa (aE K) ma) (h2 : DM H0 ρ' tb fb (aE K) mb) (hd : Enc.dep α < 9 := by decide) :
    DM H0 ρ (tCall (spF (jy K 9)) [] Ex (tCons ta (tCons tb tNil))) true (aE K) (b2 ez ma mb) := fun x e => by
  obtain ⟨a, b, e1, e2, h⟩ := cq e
  unfold ez at h
  split at h
  · rename_i hs
    cases h
    refine mM bo (fS (h1 _ e1) (fS (h2 _ e2) ja)) ⟨_, _, rfl, Enc.plain a, Enc.plain b, Nat.lt_of_le_of_lt (ge a) hd, Nat.lt_of_le_of_lt (ge b) hd, hs, ?_⟩
    rw [ky]; rfl
  · cases h
theorem qN {ds : List PyData} (h : PyData.plainAll ds = true) (i : Nat) : (ds.getD i .none).plain = true := by
  induction ds generalizing i with
  | nil => simp [PyData.plain]
  | cons d ds ih =>
    simp only [PyData.plainAll, Bool.and_eq_true] at h
    cases i with
    | zero => exact h.1
    | succ i => exact ih h.2 i
theorem q9 {ds : List PyData} (i : Nat) : (ds.getD i .none).depth ≤ PyData.depthAll ds := by
  induction ds generalizing i with
  | nil => simp [PyData.depth]
  | cons d ds ih =>
    simp only [PyData.depthAll]
    cases i with
    | zero => exact Nat.le_max_left _ _
    | succ i => exact Nat.le_trans (ih i) (Nat.le_max_right _ _)
end Kj

namespace Kj
open PySem L2
theorem u6 {X : Cx} {K : PySem.W.Frag} (h : X.K = K) : CallR X (.builtin "isinstance") (rIsiT K) := by subst h; exact call_isiT
theorem xR {X : Cx} {K : PySem.W.Frag} {e e2 : Expr} {ta : TA} {p pos tpos : Pos} {elts : List Expr} {kk : Nat} (h : X.K = K) (hg : Gl X "zip") (hm : X.mg "zip" = none) (ha : PA X [e, e2] ta)
    (hs : starEach [e, e2] X.env = (false, eval e X.env) :: starEach [e2] X.env := by rfl) (hpl : (backTo pos (starEach [e2] X.env)).any (·.1) = false := by rfl) :
    PI X (.Tuple elts kk tpos) (.Call (.Name "zip" p) [e, e2] [] pos) (RZ.iZipA K ta) := by subst h; exact RZ.pi_zipA hg hm ha hs hpl
abbrev ke (K : PySem.W.Frag) (i : Nat) (T : String) : TE := tCB (rIsi K) (tCons (tVar i) (tCons (tC (.ty T)) tNil))
abbrev BU (K : PySem.W.Frag) (i : Nat) : TE := tCB (fun xs H Q => ∃ x n, xs = [x] ∧ LenV K x H n ∧ Q (.int n) H) (tCons (tVar i) tNil)
abbrev Cy (K : PySem.W.Frag) (n : Nat) : TS :=
  tSeq (tIfS (tB (tIsN (tVar 1))) (tSeq (tRet (tIsN (tVar 0))) tNext) tNext)
  (tSeq (tIfS (tB (tCB (rIsiT K) (tCons (tVar 1) (tCons (tTup (tCons (tC (.ty "list")) (tCons (tC (.ty "tuple")) tNil))) tNil))))
    (tSeq (tIfS (tOr (tTest (tOp rNe (ke K 0 "list") (ke K 1 "list"))) (tTest (tOp rNe (ke K 0 "tuple") (ke K 1 "tuple")))) (tSeq (tRet (tC (.bl false))) tNext) tNext)
    (tSeq (tRet (tAndV (tOp rEq (BU K 0) (BU K 1)) (tCB (rAll K) (tCons (tLc (RZ.iZipA K (tCons (tVar 0) (tCons (tVar 1) tNil))) (gTup K 2 (gCons (gName 2) (gCons (gName 3) gNil))) tYes (tCall (spF (jy K n)) [] E0 (tCons (tVar 2) (tCons (tVar 3) tNil))) [2, 3]) tNil)))) tNext)) tNext)
  (tSeq (tIfS (tOr (tTest (tOp rNe (ke K 0 "bool") (ke K 1 "bool"))) (tTest (tOp rNe (ke K 0 "str") (ke K 1 "str")))) (tSeq (tRet (tC (.bl false))) tNext) tNext)
  (tSeq (tRet (tAndV (tOp rEq (ke K 0 "int") (ke K 1 "int")) (tOp rEq (tVar 0) (tVar 1)))) tNext)))
section
variable {H0 : Hp} {ρ : List Slot} {K : PySem.W.Frag}
theorem sg {N N' : List Slot → Prop} {R : Abs} {t u : TS} (h : DS C0 H0 ρ t (fun _ => False) R) : DS C0 H0 ρ (tSeq t u) N R := pO h fun _ z => z.elim
theorem Bw {d e : PyData} {ta tb : TE} {fa fb : Bool} (ha : DE H0 ρ ta fa (aD K d)) (hb : DE H0 ρ tb fb (aD K e)) (hk : (∃ i j, d = .int i ∧ e = .int j) ∨ (∃ i j, d = .bool i ∧ e = .bool j) ∨ (∃ i j, d = .str i ∧ e = .str j)) : DE H0 ρ (tOp rEq ta tb) true (aD K (.bool (fX d e))) := by
  rcases hk with ⟨i, j, rfl, rfl⟩ | ⟨i, j, rfl, rfl⟩ | ⟨i, j, rfl, rfl⟩
  · exact jl (uZ ha hb) (congrArg PyData.bool (ky i j).symm)
  · exact jl (zo ha hb) (congrArg PyData.bool (ky i j).symm)
  · exact jl (Ek ha hb) (congrArg PyData.bool (ky i j).symm)
theorem zZ {n : Nat} {d e : PyData} (p1 : d.plain = true) (p2 : e.plain = true) (d1 : d.depth < n + 1) (d2 : e.depth < n + 1) (sm : gn e = true) :
    DS C0 H0 ([aD K d, aD K e].map Slot.dat ++ List.replicate 2 Slot.no) (Cy K n) (fun _ => False) (aD K (.bool (fX d e))) := by
  have v0 : DE H0 ([aD K d, aD K e].map Slot.dat ++ List.replicate 2 Slot.no) (tVar 0) false (aD K d) := lR rfl
  have v1 : DE H0 ([aD K d, aD K e].map Slot.dat ++ List.replicate 2 Slot.no) (tVar 1) false (aD K e) := lR rfl
  refine sf (K := K) (a := yt e) (DD (v5 v1)) (fun h => ?_) (fun h => oF ?_)
  · have he : e = .none := by cases e <;> first | rfl | cases h
    subst he
    refine sg (N' := fun _ => False) (le (v5 v0) fun v G z => ?_)
    have : yt d = fX d .none := by
      cases d with
      | none => exact (lI _).symm
      | _ => exact (iu (by intro z; cases z)).symm
    rw [← this]; exact z
  refine sf (K := K) (a := tK e || tJ e) (DD (fa := true) (Bu (f := true) v1 (uv p2) (uu p2))) (fun h2 => ?_) (fun h2 => oF ?_)
  · refine sg (N' := fun _ => False) ?_
    have t1 : DT K H0 ([aD K d, aD K e].map Slot.dat ++ List.replicate 2 Slot.no) (tOr (tTest (tOp rNe (ke K 0 "list") (ke K 1 "list"))) (tTest (tOp rNe (ke K 0 "tuple") (ke K 1 "tuple")))) ((!decide (tK d = tK e)) || (!decide (tJ d = tJ e))) :=
      vT (mJ (fa := true) (su (fa := true) (fb := true) (i_ v0 (uv p1)) (i_ v1 (uv p2)))) fun _ => mJ (fa := true) (su (fa := true) (fb := true) (i_ v0 (uu p1)) (i_ v1 (uu p2)))
    refine sf t1 (fun h3 => ?_) (fun h3 => oF ?_)
    · refine sg (N' := fun _ => False) (le (A := aD K (.bool false)) zq fun v G z => ?_)
      have : fX d e = false := iu fun z => by subst z; simp at h3
      rw [this]; exact z
    · have hk : ∃ (b : Bool) (ds es : List PyData), d = (if b then .list ds else .tuple ds) ∧ e = (if b then .list es else .tuple es) := by
        cases e with
        | list es => cases d with
          | list ds => exact ⟨true, ds, es, rfl, rfl⟩
          | _ => simp [tK, tJ] at h3
        | tuple es => cases d with
          | tuple ds => exact ⟨false, ds, es, rfl, rfl⟩
          | _ => simp [tK, tJ] at h3
        | _ => simp [tK, tJ] at h2
      obtain ⟨b, ds, es, rfl, rfl⟩ := hk
      have q1 : PyData.plainAll ds = true := by cases b <;> simpa [PyData.plain] using p1
      have q2 : PyData.plainAll es = true := by cases b <;> simpa [PyData.plain] using p2
      have g1 : PyData.depthAll ds < n := by cases b <;> simp [PyData.depth] at d1 <;> omega
      have g2 : PyData.depthAll es < n := by cases b <;> simp [PyData.depth] at d2 <;> omega
      have hm : es.length ≤ 100000 ∧ smallAll es = true := by cases b <;> simpa [gn] using sm
      have l0 := sv (f := true) v0 (n := ds.length) (by cases b <;> rfl)
      have l1 := sv (f := true) v1 (n := es.length) (by cases b <;> rfl)
      have key : fX (if b then PyData.list ds else PyData.tuple ds) (if b then PyData.list es else PyData.tuple es) = (decide ((ds.length : Int) = (es.length : Int)) && fX (.list ds) (.list es)) := by
        rw [Bool.eq_iff_iff, Bool.and_eq_true, iX, iX, decide_eq_true_iff]
        cases b
        · rw [if_neg Bool.false_ne_true, if_neg Bool.false_ne_true]
          constructor
          · intro z; cases z; exact ⟨rfl, rfl⟩
          · rintro ⟨_, z⟩; cases z; rfl
        · rw [if_pos rfl, if_pos rfl]
          constructor
          · intro z; cases z; exact ⟨rfl, rfl⟩
          · rintro ⟨_, z⟩; exact z
      refine le (A := aD K (.bool (decide ((ds.length : Int) = (es.length : Int)) && fX (.list ds) (.list es)))) (sy (fa := true) (fb := true) (uZ (fa := true) (fb := true) l0 l1) fun hl => ?_) fun v G z => by rw [key]; exact z
      have hl' : ds.length = es.length := by have := of_decide_eq_true hl; omega
      have lc := zm (H0 := H0) (K := K) (te := tCall (spF (jy K n)) [] E0 (tCons (tVar 2) (tCons (tVar 3) tNil))) (f := true) (vs := [2, 3]) (tt := tYes) (g := gTup K 2 (gCons (gName 2) (gCons (gName 3) gNil)))
        (AX (b := b) (ds := ds) (es := es) v0 v1) rfl (by omega) (fun i => some (.bool (fX (ds.getD i .none) (es.getD i .none)))) fun k hk => ⟨_, Bn rfl rfl rfl rfl, yU, fun dd hdd => by
          cases hdd
          exact mM cO (fS (fa := false) (lR rfl) (fS (fa := false) (lR rfl) ja)) ⟨_, _, rfl, qN q1 k, qN q2 k, Nat.lt_of_le_of_lt (q9 k) g1, Nat.lt_of_le_of_lt (q9 k) g2, wp hm.2 k, rfl⟩⟩
      rw [tD] at lc
      have hb := zH ds es hl'
      have lc2 := zr (f := true) (bs := (List.range (min ds.length es.length)).map fun i => fX (ds.getD i .none) (es.getD i .none)) (te := tLc (RZ.iZipA K (tCons (tVar 0) (tCons (tVar 1) tNil))) (gTup K 2 (gCons (gName 2) (gCons (gName 3) gNil))) tYes (tCall (spF (jy K n)) [] E0 (tCons (tVar 2) (tCons (tVar 3) tNil))) [2, 3]) (jl lc (by rw [List.map_map]; rfl))
      rw [hb] at lc2
      exact jl lc2 (by rw [Bool.decide_eq_true])
  · have t1 : DT K H0 ([aD K d, aD K e].map Slot.dat ++ List.replicate 2 Slot.no) (tOr (tTest (tOp rNe (ke K 0 "bool") (ke K 1 "bool"))) (tTest (tOp rNe (ke K 0 "str") (ke K 1 "str")))) ((!decide (yu d = yu e)) || (!decide (Az d = Az e))) :=
      vT (mJ (fa := true) (su (fa := true) (fb := true) (i_ v0 (yq p1)) (i_ v1 (yq p2)))) fun _ => mJ (fa := true) (su (fa := true) (fb := true) (i_ v0 (yo p1)) (i_ v1 (yo p2)))
    refine sf t1 (fun h3 => ?_) (fun h3 => oF ?_)
    · refine sg (N' := fun _ => False) (le (A := aD K (.bool false)) zq fun v G z => ?_)
      have : fX d e = false := iu fun z => by subst z; simp at h3
      rw [this]; exact z
    · refine le (A := aD K (.bool (decide (wN d = wN e) && fX d e))) (sy (fa := true) (fb := true) (zo (fa := true) (fb := true) (i_ v0 (yp p1)) (i_ v1 (yp p2))) fun hl => ?_) fun v G z => ?_
      · refine Bw v0 v1 ?_
        cases e with
        | none => simp [yt] at h
        | bool j => cases d with
          | bool i => exact .inr (.inl ⟨i, j, rfl, rfl⟩)
          | _ => simp [yu] at h3
        | int j => cases d with
          | int i => exact .inl ⟨i, j, rfl, rfl⟩
          | bool i => simp [yu] at h3
          | _ => simp [wN] at hl
        | str j => cases d with
          | str i => exact .inr (.inr ⟨i, j, rfl, rfl⟩)
          | _ => simp [Az] at h3
        | list _ => simp [tK] at h2
        | tuple _ => simp [tJ] at h2
        | dict _ => cases p2
      · have : fX d e = (decide (wN d = wN e) && fX d e) := by
          by_cases z : d = e
          · subst z; simp
          · rw [iu z, Bool.and_false]
        rw [this]; exact z
end
end Kj

namespace Kj
open PySem PySem.Spec PyProof.Rows L2
abbrev G6 (w : World) : Obj := { cls := .type "set", dict := none, data := .set #[] 0 (.fresh 0 0 (!w.params.followText "set-order")) }
section
variable {P : Program} {w : World} {A : Around} {E : Value → Shared → Prop} {s : Shared}
end
def EQ (K : PySem.W.Frag) (ta : TE) : TE := fun σ H Q => ta σ H fun x H1 => ∃ (l : Addr) (ns : List Int), x = V.ref l ∧ SqL K H1 l (ns.map V.int) ∧ ns.length < 64 ∧
  ∀ (ks : List Int) (p : Addr), ks.Pairwise (· < ·) → (∀ k : Int, k ∈ ks ↔ k ∈ ns) → H1 p = none → Q (.ref p) (upd H1 p (.lst (ks.map V.int)))
def pe (k : Int) : List Int → List Int
  | [] => [k]
  | x :: xs => if k < x then k :: x :: xs else if k = x then x :: xs else x :: pe k xs
def lG : List Int → List Int
  | [] => []
  | k :: ks => pe k (lG ks)
theorem pb {k j : Int} : ∀ {xs : List Int}, j ∈ pe k xs ↔ j = k ∨ j ∈ xs
  | [] => by simp [pe]
  | x :: xs => by
    unfold pe
    split
    · simp
    · split
      · rename_i h; subst h; simp
      · simp [pb (xs := xs)]
        constructor
        · rintro (h | h | h) <;> simp [h]
        · rintro (h | h | h) <;> simp [h]
theorem tz {j : Int} : ∀ {xs : List Int}, j ∈ lG xs ↔ j ∈ xs
  | [] => by simp [lG]
  | x :: xs => by simp [lG, pb, tz (xs := xs)]
theorem vJ {k : Int} : ∀ {xs : List Int}, xs.Pairwise (· < ·) → (pe k xs).Pairwise (· < ·)
  | [], _ => by simp [pe]
  | x :: xs, h => by
    unfold pe
    have h' := List.pairwise_cons.mp h
    split
    · rename_i hk
      refine List.pairwise_cons.mpr ⟨fun y hy => ?_, h⟩
      rcases List.mem_cons.mp hy with e | e
      · subst e; exact hk
      · exact Int.lt_trans hk (h'.1 y e)
    · split
      · exact h
      · rename_i h1 h2
        refine List.pairwise_cons.mpr ⟨fun y hy => ?_, vJ h'.2⟩
        rcases pb.mp hy with e | e
        · subst e; omega
        · exact h'.1 y e
theorem vm : ∀ xs : List Int, (lG xs).Pairwise (· < ·)
  | [] => by simp [lG]
  | x :: xs => vJ (vm xs)
theorem qL : ∀ {xs ys : List Int}, xs.Pairwise (· < ·) → ys.Pairwise (· < ·) → (∀ k, k ∈ xs ↔ k ∈ ys) → xs = ys
  | [], [], _, _, _ => rfl
  | [], y :: ys, _, _, h => by have := (h y).mpr (by simp); cases this
  | x :: xs, [], _, _, h => by have := (h x).mp (by simp); cases this
  | x :: xs, y :: ys, h1, h2, h => by
    have a1 := List.pairwise_cons.mp h1
    have a2 := List.pairwise_cons.mp h2
    have e : x = y := by
      rcases List.mem_cons.mp ((h x).mp (by simp)) with e | e
      · exact e
      · rcases List.mem_cons.mp ((h y).mpr (by simp)) with e' | e'
        · exact e'.symm
        · have := a1.1 y e'; have := a2.1 x e; omega
    subst e
    congr 1
    refine qL a1.2 a2.2 fun k => ?_
    have hk := h k
    simp only [List.mem_cons] at hk
    constructor
    · intro z
      rcases hk.mp (.inr z) with e | e
      · subst e; have := a1.1 k z; omega
      · exact e
    · intro z
      rcases hk.mpr (.inr z) with e | e
      · subst e; have := a2.1 k z; omega
      · exact e
def oV (ns : List Int) : Option (List Int) := if ns.length < 64 then some (lG ns) else none
end Kj

namespace Kj
open PySem L2
theorem gx {H H' : Hp} (p : Addr) (s : Same H H') : Same (rm H p) (rm H' p) := fun a o h => by
  obtain ⟨h1, h2⟩ := k8 h
  rw [jC h2]; exact s _ _ h1
def aO (B : AbsO) : Abs := ⟨fun v H => ∃ p o, v = .ref p ∧ H p = some o ∧ B.p p o (rm H p), fun v H H' s ⟨p, o, e, h, b⟩ => ⟨p, o, e, s _ _ h, B.mono _ _ _ _ (gx p s) b⟩⟩
abbrev aEo {α : Type} [Enc α] (K : PySem.W.Frag) (x : List α) : Abs := aO (oE K x)
def DMo (K : PySem.W.Frag) (H0 : Hp) (ρ : List Slot) (t : TE) {α : Type} [Enc α] (m : Option (List α)) : Prop := ∀ xs, m = some xs → ∀ (σ : St) (H Hr : Hp) (Q : VK), EnvOk H0 σ ρ H Hr →
  (∀ p o H1 Hr1, Ext H Hr H1 Hr1 → H1 p = none → (oE K xs).p p o (mns Hr1 H0) → Q (.ref p) (upd H1 p o)) → t σ H Q
section
variable {Gw : WK} {H0 : Hp} {ρ ρ' : List Slot} {K : PySem.W.Frag} {f fa fb fc g : Bool} {ta tb tc te : TE} {α β γ δ S S1 R : Type} {A : R → Abs} {B : S → List Slot} {t u w : TS}
def Gp (j : Int) : Option (List Int) := if 0 ≤ j ∧ j ≤ 16777216 then some ((List.range j.toNat).map fun n : Nat => (n : Int)) else none
def Fo (k : Int) : List Int → List Int
  | [] => [k]
  | x :: xs => if k ≤ x then k :: x :: xs else x :: Fo k xs
def BV : List Int → List Int
  | [] => []
  | k :: ks => Fo k (BV ks)
def vo (ns : List Int) : Option (List Int) := some (BV ns)
variable {Ex : XK} {Ax : α → Abs} {Bx : β → Abs} {Dx : δ → Abs} {ma : Option α} {mb : Option β} {md : Option δ}
def Ii {α β : Type} (xs : List α) (k : α → List α → Option β) : Option β := match xs.getLast? with | some x => k x xs.dropLast | none => none
theorem tyL {H : Hp} {p : Addr} {xs : List V} (h : H p = some (.lst xs)) : tyV K "list" (.ref p) H := .inl ⟨rfl, _, SqL.of h⟩
def GA {α β : Type} (xs : List α) (i : Int) (k : α → List α → Option β) : Option β := if 0 ≤ i ∧ i < xs.length ∧ i < 1000000000 then (match xs[i.toNat]? with | some x => k x (xs.eraseIdx i.toNat) | none => none) else none
end
end Kj

namespace Kj
open PySem L2
def Ih {β : Type} (xs : List Int) (x : Int) (k : List Int → Option β) : Option β := if x ∈ xs then k (xs.erase x) else none
section
variable {Gw : WK} {H0 : Hp} {ρ ρ' : List Slot} {K : PySem.W.Frag} {f fa fb fc g : Bool} {ta tb tc te : TE} {α β γ δ S S1 R : Type} {A : R → Abs} {B : S → List Slot} {t u w : TS}
end
end Kj
namespace Kj
open PySem L2
section
variable {Gw : WK} {H0 : Hp} {ρ ρ' : List Slot} {K : PySem.W.Frag} {f fa fb fc g : Bool} {ta tb tc te : TE} {α β γ δ S S1 R : Type} {Ex : XK} {Ax : α → Abs} {Bx : β → Abs} {Dx : δ → Abs} {ma : Option α} {mb : Option β} {md : Option δ} {Cl : Addr} {m : Str} {O : α → List (Str × Abs)}
end
end Kj

namespace Kj
open PySem L2
abbrev Ct := List (P2 Str Int)
def ent (p : P2 Str Int) : Key × V := (Sum.inr p.a, V.int p.b)
def BG (d : Ct) (k : Str) : Option Int := (d.find? fun p => decide (p.a = k)).map P2.b
def Eu (d : Ct) (k : Str) (v : Int) : Ct := if (d.any fun p => decide (p.a = k)) = true then d.map (fun p => if p.a = k then ⟨p.a, v⟩ else p) else d ++ [⟨k, v⟩]
def oC (d : Ct) : AbsO := ⟨fun _ o _ => o = .dK (d.map ent), fun _ _ _ _ _ h => h⟩
def aFz (od : Obj) (d : Ct) : Abs := ⟨fun v H => ∃ p, v = .ref p ∧ H p = some (.frz od (.dK (d.map ent))), fun v H H' s ⟨p, e, h⟩ => ⟨p, e, s _ _ h⟩⟩
def GN (d : Ct) (k : Str) (z : Int) : Option Int := some ((BG d k).getD z)
def Gz {β : Type} (d : Ct) (k : Str) (v : Int) (c : Ct → Option β) : Option β := if d.length < 100000 then c (Eu d k v) else none
section
variable {Gw : WK} {H0 : Hp} {ρ ρ' : List Slot} {K : PySem.W.Frag} {f fa fb fc g : Bool} {ta tb tc te : TE} {α β γ δ S S1 R : Type} {A : R → Abs} {B : S → List Slot} {t u w : TS}
mutual
theorem Bb {H : Hp} {p : Addr} {od : Obj} {kvs : List (Key × V)} (h : H p = some (.frz od (.dK kvs))) : ∀ (d : PyData) (v : V), Dp K H v d → Dp K (rm H p) v d
  | .none, _, q => by cases q; exact .non
  | .bool b, _, q => by cases q; exact .bl b
  | .int i, _, q => by cases q; exact .int i
  | .str x, _, q => by cases q; exact .str x
  | .list ds, _, q => by
    cases q with
    | @lst a xs _ hs ha =>
      refine .lst ?_ (dpa_rmfz h ds _ ha)
      rcases hs with (hs | ⟨o, hs⟩) | hs
      · exact .inl (.inl (by rw [jC (fun z => by rw [z, h] at hs; cases hs)]; exact hs))
      · exact .inl (.inr ⟨o, by rw [jC (fun z => by rw [z, h] at hs; cases hs)]; exact hs⟩)
      · exact .inr hs
  | .tuple ds, _, q => by
    cases q with
    | @tup a xs _ hs ha =>
      refine .tup ?_ (dpa_rmfz h ds _ ha)
      rcases hs with (hs | ⟨o, hs⟩) | hs
      · exact .inl (.inl (by rw [jC (fun z => by rw [z, h] at hs; cases hs)]; exact hs))
      · exact .inl (.inr ⟨o, by rw [jC (fun z => by rw [z, h] at hs; cases hs)]; exact hs⟩)
      · exact .inr hs
  | .dict _, _, q => by cases q
theorem dpa_rmfz {H : Hp} {p : Addr} {od : Obj} {kvs : List (Key × V)} (h : H p = some (.frz od (.dK kvs))) : ∀ (ds : List PyData) (vs : List V), DpAll K H vs ds → DpAll K (rm H p) vs ds
  | [], _, q => by cases q; exact .nil
  | d :: ds, _, q => by
    cases q with
    | cons h1 h2 => exact .cons (Bb h d _ h1) (dpa_rmfz h ds _ h2)
end
end
end Kj

namespace Kj
open PySem L2
structure BookT where
  lines : List (List Str)
  deriving DecidableEq
abbrev d5 (K : PySem.W.Frag) : Addr := He.ga K "Book"
abbrev hZ (K : PySem.W.Frag) (b : BookT) : List (Str × Abs) := [("lines", aE K b.lines)]
abbrev bV (K : PySem.W.Frag) (b : BookT) : Abs := kf (d5 K) (hZ K b)
def fL (bU : (List Int)) (ci : Int) : Option (List Int) := ba (S := Unit) (R := (List Int)) 
  (b1 (fun bH => (b1 (fun cZ => (ah (S1 := (List Int) × Int) (b1 (fun xs => cD (fun x2 s1 => (b1 (fun cZ => (b1 (fun eO => (ah (S1 := (List Int)) (a9 (b2 ltI (some eO) (some (0 : Int)))
    (b1 (fun x => kU s1.1 x fun bH => (some (Fl.nx bH))) (b2 bJ (some x2) (some (9967 : Int))))
    (some (Fl.nx s1.1))) fun s8 => (ah (S1 := (List Int) × Int) (b1 (fun xs => cD (fun x10 s9 => (ah (S1 := (List Int) × Int) (a9 (b2 gtI (some s9.2) (some (0 : Int)))
    (b1 (fun x => kU s9.1 x fun bH => (b1 (fun eO => (some (Fl.nx (bH, eO))))
    (b2 hW (some s9.2) (some (1013 : Int))))) (b2 bJ (some s9.2) (some (1013 : Int))))
    (some (Fl.nx (s9.1, s9.2)))) fun s12 => (some (Fl.nx (s12.1, s12.2))))) xs (s8, eO)) (b1 rngM (some (60 : Int)))) fun s9 => (some (Fl.nx (s9.1, cZ))))))
    (b2 jT (some x2) (b2 powI (some (10 : Int)) (some (18 : Int))))))
    (b2 bJ (b2 cN (b2 cN (b2 fE (some s1.2) (some (40014 : Int))) (b2 bJ (some x2) (some (999983 : Int)))) (some (17 : Int))) (some (2147483563 : Int))))) xs (bH, cZ)) (b3 cM (some bU) ce (bN (some (63 : Int))))) fun s1 => (ah (S1 := (List Int) × Int) (gZ (fun s13 => (b2 ltI (b1 b7 (some s13.1)) (some ci))) (fun s13 => (b1 (fun cZ => (b1 (fun x => kU s13.1 x fun bH => (some (Fl.nx (bH, cZ)))) (b2 bJ (b2 hW (some cZ) (some (1019 : Int))) (some (9967 : Int)))))
    (b2 bJ (b2 cN (b2 cN (b2 cN (b2 fE (some s13.2) (some s13.2)) (b2 fE (some (52774 : Int)) (some s13.2))) (b2 fE (some (11 : Int)) (b1 b7 (some s13.1)))) (some (3 : Int))) (some (2147483629 : Int))))) fuelN (s1.1, s1.2)) fun s13 => (b1 (fun r => some (Fl.rt r)) (b3 cM (some s13.1) ce (bN (some ci)))))))
    (some (41 : Int)))) (some ([] : (List Int))))
def f_ (bd : Int) : Option Str := ba (S := Unit) (R := Str) 
  (b1 (fun eP => (b1 (fun r => some (Fl.rt r)) (b2 qS (some ("" : Str)) (b1 (lcM fun x1 => lcE (some true) (b2 ixS (some eP) (b2 bJ (b2 cN (b2 hW (some bd) (some (3 : Int))) (b2 fE (some x1) (b2 hW (some bd) (some (79 : Int))))) (some (26 : Int))))) (b1 rngM (b2 cN (some (1 : Int)) (b2 bJ (some bd) (some (3 : Int)))))))))
    (some ("abcdefghijklmnopqrstuvwxyz" : Str)))
def ii (af : (List Int)) : Option (List Str) := ba (S := Unit) (R := (List Str)) 
  (ah (S1 := Unit) (a9 (b2 eqM (b2 bJ (b2 atI (some af) (some (0 : Int))) (some (3 : Int))) (some (0 : Int)))
    (b1 (fun r => some (Fl.rt r)) (b1 aK (b2 ar (some ("a" : Str)) (b2 ar (some ("b" : Str)) (b2 ar (some ("ab" : Str)) (b2 ar (some ("ba" : Str)) (b2 ar (some ("aa" : Str)) (b2 ar (some ("bab" : Str)) (some ([] : List Str))))))))))
    (some (Fl.nx ()))) fun s1 => (ah (S1 := Unit) (a9 (b2 eqM (b2 bJ (b2 atI (some af) (some (0 : Int))) (some (3 : Int))) (some (1 : Int)))
    (b1 (fun r => some (Fl.rt r)) (b1 aK (b2 ar (some ("ka" : Str)) (b2 ar (some ("ki" : Str)) (b2 ar (some ("k" : Str)) (b2 ar (some ("i" : Str)) (b2 ar (some ("kik" : Str)) (b2 ar (some ("ma" : Str)) (some ([] : List Str))))))))))
    (some (Fl.nx ()))) fun s2 => (b1 (fun r => some (Fl.rt r)) (b1 (lcM fun x3 => lcE (some true) (b1 f_ (b2 atI (some af) (some x3)))) (b2 rng2M (some (1 : Int)) (some (7 : Int)))))))
def dY (cX : (List Str)) (cm : (List Str)) : Option Bool := ba (S := Unit) (R := Bool) 
  (b1 (fun bc => (b1 (fun r => some (Fl.rt r)) (b2 eqM (b3 cM (some cX) ce (bN (some bc))) (b3 cM (some cm) ce (bN (some bc))))))
    (b2 ya (b1 b7 (some cX)) (b1 b7 (some cm))))
def gU (aa : (List (List Str))) (ch : (List Str)) (af : (List Int)) : Option (List Str) := ba (S := Unit) (R := (List Str)) 
  (b1 (fun a7 => (ah (S1 := (List Str)) (a9 (fG (b2 neM (some aa) (b1 aK (some ([] : List (List Str))))) (b2 gtI (b2 bJ (b2 atI (some af) (some (0 : Int))) (some (4 : Int))) (some (0 : Int))))
    (b1 (fun iq => (b1 (fun a7 => (some (Fl.nx a7)))
    (b3 cM (some iq) ce (bN (b2 bJ (b2 hW (b2 atI (some af) (some (0 : Int))) (some (4 : Int))) (b2 cN (b1 b7 (some iq)) (some (1 : Int))))))))
    (b2 atI (some aa) (b2 bJ (b2 atI (some af) (some (1 : Int))) (b1 b7 (some aa)))))
    (some (Fl.nx a7))) fun s1 => (b1 (fun a7 => (b1 (fun r => some (Fl.rt r)) (b3 cM (some a7) ce (bN (some (8 : Int))))))
    (b2 dw (some s1) (b1 (lcM fun x2 => lcE (some true) (b2 atI (some ch) (b2 bJ (b2 atI (some af) (b2 cN (some (3 : Int)) (some x2))) (b1 b7 (some ch))))) (b1 rngM (b2 cN (some (1 : Int)) (b2 bJ (b2 atI (some af) (some (2 : Int))) (some (3 : Int))))))))))
    (b1 aK (some ([] : List Str))))
def gK (af : (List Int)) (bc : Int) : Option (List (List Str)) := ba (S := Unit) (R := (List (List Str))) 
  (b1 (fun aa => (ah (S1 := (List (List Str))) (b1 (fun xs => cD (fun x2 s1 => (b1 (fun bw => (b1 (fun a7 => (b1 (fun x => kU s1 x fun aa => (some (Fl.nx aa))) (b2 dw (some a7) (b3 cM (b1 aK (b2 ar (some ("ma" : Str)) (b2 ar (some ("a" : Str)) (b2 ar (some ("bab" : Str)) (b2 ar (some ("a" : Str)) (b2 ar (some ("b" : Str)) (some ([] : List Str)))))))) ce (bN (b2 bJ (b2 cN (b2 atI (some af) (some (2 : Int))) (b2 fE (some x2) (b2 atI (some af) (some (3 : Int))))) (some (6 : Int))))))))
    (b1 aK (b2 ar (b2 atI (b1 aK (b2 ar (some ("a" : Str)) (b2 ar (some ("b" : Str)) (b2 ar (some ("ab" : Str)) (b2 ar (some ("ba" : Str)) (some ([] : List Str))))))) (b2 hW (some bw) (some (16 : Int)))) (b2 ar (b2 atI (b1 aK (b2 ar (some ("a" : Str)) (b2 ar (some ("aa" : Str)) (b2 ar (some ("ba" : Str)) (b2 ar (some ("b" : Str)) (some ([] : List Str))))))) (b2 bJ (b2 hW (some bw) (some (4 : Int))) (some (4 : Int)))) (b2 ar (b2 atI (b1 aK (b2 ar (some ("ka" : Str)) (b2 ar (some ("k" : Str)) (b2 ar (some ("a" : Str)) (b2 ar (some ("ki" : Str)) (some ([] : List Str))))))) (b2 bJ (some bw) (some (4 : Int)))) (some ([] : List Str))))))))
    (b2 bJ (b2 cN (b2 atI (some af) (some (0 : Int))) (b2 fE (some x2) (b2 cN (some (1 : Int)) (b2 fE (some (2 : Int)) (b2 bJ (b2 atI (some af) (some (1 : Int))) (some (32 : Int))))))) (some (64 : Int))))) xs aa) (b1 rngM (some bc))) fun s1 => (b1 (fun r => some (Fl.rt r)) (some s1)))) (some ([] : (List (List Str)))))
def gL (af : (List Int)) (c7 : Int) : Option (List (List Str)) := ba (S := Unit) (R := (List (List Str))) 
  (ah (S1 := Unit) (a9 (b2 eqM (b2 bJ (b2 hW (b2 atI (some af) (some (8 : Int))) (some (5 : Int))) (some (5 : Int))) (some (4 : Int)))
    (b1 (fun r => some (Fl.rt r)) (b2 gK (b3 cM (some af) (bN (some (1 : Int))) (bN (some (5 : Int)))) (b2 cN (some (1 : Int)) (b2 bJ (b2 atI (some af) (some (0 : Int))) (some c7)))))
    (some (Fl.nx ()))) fun s1 => (b1 (fun ch => (b1 (fun aa => (ah (S1 := (List (List Str))) (b1 (fun xs => cD (fun x3 s2 => (b1 (fun a7 => (ah (S1 := (List (List Str))) (a9 (b1 nH (b1 (lcM fun x6 => lcE (some true) (dC (b2 dY (some a7) (some x6)))) (some s2)))
    (b1 (fun x => kU s2 x fun aa => (some (Fl.nx aa))) (some a7))
    (some (Fl.nx s2))) fun s7 => (some (Fl.nx s7))))
    (b3 gU (some s2) (some ch) (b3 cM (some af) (bN (b2 cN (some (9 : Int)) (b2 fE (some (6 : Int)) (some x3)))) (bN (b2 cN (some (15 : Int)) (b2 fE (some (6 : Int)) (some x3)))))))) xs aa) (b1 rngM (b2 cN (some (1 : Int)) (b2 bJ (b2 atI (some af) (some (0 : Int))) (some c7))))) fun s2 => (b1 (fun r => some (Fl.rt r)) (some s2)))) (some ([] : (List (List Str))))))
    (b3 cM (b1 ii (b3 cM (some af) (bN (some (1 : Int))) (bN (some (8 : Int))))) ce (bN (b2 cN (some (2 : Int)) (b2 bJ (b2 atI (some af) (some (8 : Int))) (some (5 : Int))))))))
def gc (aj : (List (List Str))) : Option (List (List Str)) := ba (S := Unit) (R := (List (List Str))) 
  (b1 (fun r => some (Fl.rt r)) (b1 (lcM fun x1 => lcE (some true) (b1 jh (some x1))) (some aj)))
def fN (gz : Str) : Option Bool := ba (S := Unit) (R := Bool) 
  (b1 (fun r => some (Fl.rt r)) (fG (chM leI leI (some (1 : Int)) (b1 rJ (some gz)) (some (3 : Int))) (b1 nH (b1 (lcM fun x1 => lcE (some true) (chM leS leS (some ("a" : Str)) (some x1) (some ("z" : Str)))) (b1 ug (some gz))))))
def gM (eI : (List Str)) : Option Bool := ba (S := Unit) (R := Bool) 
  (b1 (fun r => some (Fl.rt r)) (fG (chM leI leI (some (1 : Int)) (b1 b7 (some eI)) (some (8 : Int))) (b1 nH (b1 (lcM fun x1 => lcE (some true) (b1 fN (some x1))) (some eI)))))
def eK (fm : (List Str)) (bF : (List Str)) : Option Bool := ba (S := Unit) (R := Bool) 
  (b1 (fun r => some (Fl.rt r)) (b2 eqM (b3 cM (some bF) ce (bN (b1 b7 (some fm)))) (some fm)))
def rY (cj : (List (List Str))) : Option Unit := jr (S := Unit) 
  (ah (S1 := Unit) (a9 (dC (chM leI leI (some (1 : Int)) (b1 b7 (some cj)) (some (40 : Int))))
    none
    (some (Fl.nx ()))) fun s1 => (ah (S1 := Unit) (b1 (fun xs => cD (fun x3 s2 => (ah (S1 := Unit) (a9 (dC (b1 gM (some x3.b)))
    none
    (some (Fl.nx ()))) fun s5 => (some (Fl.nx ())))) xs ()) (b1 gX (some cj))) fun s2 => (ah (S1 := Unit) (b1 (fun xs => cD (fun x7 s6 => (ah (S1 := Unit) (b1 (fun xs => cD (fun x13 s12 => (ah (S1 := Unit) (a9 (orM (b2 eK (b2 atI (some cj) (some x13)) (b2 atI (some cj) (some x7))) (b2 eK (b2 atI (some cj) (some x7)) (b2 atI (some cj) (some x13))))
    none
    (some (Fl.nx ()))) fun s15 => (some (Fl.nx ())))) xs ()) (b1 rngM (some x7))) fun s12 => (some (Fl.nx ())))) xs ()) (b1 rngM (b1 b7 (some cj)))) fun s6 => (some (Fl.nx ())))))
def xh (bL : (List (List Str))) : Option BookT := De (R := Unit)
  (b1 (fun _ => (b1 (fun y => some (Fl.nx (⟨y⟩ : BookT))) (b1 (lcM fun x1 => lcE (some true) (b1 jh (some x1))) (some bL)))) (b1 rY (some bL)))
def dh (ac : BookT) : Option Int := ba (S := Unit) (R := Int) 
  (b1 (fun r => some (Fl.rt r)) (b1 b7 ((some ac).map BookT.lines)))
def cA (bv : BookT) (dQ : Int) : Option Unit := jr (S := Unit) 
  (ah (S1 := Unit) (a9 (dC (chM leI ltI (some (0 : Int)) (some dQ) (b1 dh (some bv) )))
    none
    (some (Fl.nx ()))) fun s1 => (some (Fl.nx ())))
def bM (ac : BookT) (dQ : Int) : Option (List Str) := ba (S := Unit) (R := (List Str)) 
  (b1 (fun _ => (b1 (fun r => some (Fl.rt r)) (b1 jh (b2 atI ((some ac).map BookT.lines) (some dQ))))) (b2 cA (some ac) (some dQ)))
def rS (ci : Int) (af : (List Int)) : Option (List Int) := ba (S := Unit) (R := (List Int)) 
  (b1 (fun bH => (ah (S1 := Unit) (a9 (b2 eqM (b2 bJ (b2 hW (b2 atI (some af) (some (0 : Int))) (some (4 : Int))) (some (3 : Int))) (some (1 : Int)))
    (b1 (fun r => some (Fl.rt r)) (b1 E7 (some bH)))
    (some (Fl.nx ()))) fun s2 => (ah (S1 := Unit) (a9 (b2 eqM (b2 bJ (b2 hW (b2 atI (some af) (some (0 : Int))) (some (4 : Int))) (some (3 : Int))) (some (2 : Int)))
    (b1 (fun bw => (b1 (fun r => some (Fl.rt r)) (b2 dw (b2 dw (b3 cM (some bH) (bN (some bw)) ce) (b3 cM (some bH) ce (bN (some bw)))) (b3 cM (some bH) ce (bN (some (2 : Int)))))))
    (b2 bJ (b2 hW (b2 atI (some af) (some (0 : Int))) (some (12 : Int))) (b2 cN (b1 b7 (some bH)) (some (1 : Int)))))
    (some (Fl.nx ()))) fun s3 => (b1 (fun r => some (Fl.rt r)) (some bH)))))
    (b1 (lcM fun x1 => lcE (orM (b2 eqM (b2 bJ (b2 atI (some af) (some (0 : Int))) (some (4 : Int))) (some (0 : Int))) (b2 gtI (b2 bJ (b2 atI (some af) (b2 cN (some (1 : Int)) (some x1))) (some (3 : Int))) (some (0 : Int)))) (some x1)) (b1 rngM (some ci))))
def i6 (bv : BookT) (jz : (List Int)) : Option (List Int) := ba (S := Unit) (R := (List Int)) 
  (ah (S1 := Unit) (b1 (fun xs => cD (fun x2 s1 => (b1 (fun _ => (some (Fl.nx ()))) (b2 cA (some bv) (some x2)))) xs ()) (some jz)) fun s1 => (b1 (fun r => some (Fl.rt r)) (b1 oV (some jz))))
def jG (bv : BookT) (a_ : (List Int)) (dR : (List Str)) : Option (List Int) := ba (S := Unit) (R := (List Int)) 
  (b1 (fun r => some (Fl.rt r)) (b1 (lcM fun x1 => lcE (b2 eK (some dR) (b2 bM (some bv) (some x1))) (some x1)) (b2 i6 (some bv) (some a_))))
def jF (bv : BookT) (fm : Int) (bF : Int) : Option Int := ba (S := Unit) (R := Int) 
  (b1 (fun cg => (ah (S1 := Int) (b1 (fun xs => cD (fun x2 s1 => (ah (S1 := Unit) (a9 (b2 neM (some x2.a) (some x2.b))
    (b1 (fun r => some (Fl.rt r)) (some s1))
    (some (Fl.nx ()))) fun s4 => (b1 (fun y => (fun cg => (some (Fl.nx cg))) ((fun i j => i + j) s1 y)) (some (1 : Int))))) xs cg) (b2 Cq (b2 bM (some bv) (some fm)) (b2 bM (some bv) (some bF)))) fun s1 => (b1 (fun r => some (Fl.rt r)) (some s1))))
    (some (0 : Int)))
def kE (bv : BookT) (a_ : (List Int)) (ak : Int) (cg : Int) : Option (List Int) := ba (S := Unit) (R := (List Int)) 
  (b1 (fun _ => (b1 (fun fT => (b1 (fun r => some (Fl.rt r)) (b1 (lcM fun x2 => lcE (b2 geI (b3 jF (some bv) (some ak) (some x2)) (some cg)) (some x2)) (some fT))))
    (b1 (lcM fun x1 => lcE (b2 neM (some x1) (some ak)) (some x1)) (b2 i6 (some bv) (some a_))))) (b2 cA (some bv) (some ak)))
def pC (bv : BookT) (a_ : (List Int)) (ak : Int) : Option (List Str) := ba (S := Unit) (R := (List Str)) 
  (b1 (fun cg => (ah (S1 := Int) (gZ (fun s1 => ((b4 kE (some bv) (some a_) (some ak) (some s1)).map fun xs => !xs.isEmpty)) (fun s1 => (b1 (fun y => (fun cg => (some (Fl.nx cg))) ((fun i j => i + j) s1 y)) (some (1 : Int)))) fuelN cg) fun s1 => (b1 (fun r => some (Fl.rt r)) (b3 cM (b2 bM (some bv) (some ak)) ce (bN (some s1))))))
    (some (0 : Int)))
end Kj

namespace Kj
open PySem L2
def EJ (bv : BookT) (a_ : (List Int)) (ak : Int) : Option (List (List Int)) := ba (S := Unit) (R := (List (List Int))) 
  (b1 (fun kW => (b1 (fun r => some (Fl.rt r)) (b1 (lcM fun x1 => lcE (some true) (b4 kE (some bv) (some a_) (some ak) (some x1))) (b1 rngM (some kW)))))
    (b1 b7 (b3 pC (some bv) (some a_) (some ak))))
end Kj

namespace Kj
open PySem L2
def FC (bv : BookT) (a_ : (List Int)) (dR : (List Str)) : Option (List (P2 Str Int)) := ba (S := Unit) (R := (List (P2 Str Int))) 
  (b1 (fun cg => (b1 (fun jA => (ah (S1 := Ct) (b1 (fun xs => cD (fun x2 s1 => (b1 (fun ak => (ah (S1 := Ct) (a9 (b2 gtI (b1 b7 (some ak)) (some cg))
    (b2 (fun v z => Gz s1 z v fun jA => (some (Fl.nx jA))) (b2 cN (b2 (GN s1) (b2 atI (some ak) (some cg)) (some (0 : Int))) (some (1 : Int))) (b2 atI (some ak) (some cg)))
    (some (Fl.nx s1))) fun s4 => (some (Fl.nx s4))))
    (b2 bM (some bv) (some x2)))) xs jA) (b3 jG (some bv) (some a_) (some dR))) fun s1 => (b1 (fun r => some (Fl.rt r)) (some s1)))) (some ([] : Ct))))
    (b1 b7 (some dR)))
end Kj

namespace Kj
open PySem L2
def tQ (aa : (List (List Str))) (cX : Int) (cm : Int) : Option Int := ba (S := Unit) (R := Int) 
  (b1 (fun bc => (b1 (fun ki => (ah (S1 := Int) (gZ (fun s1 => (fG (b2 ltI (some s1) (b1 b7 (some ki))) (b2 eqM ((b2 atI (some ki) (some s1)).map P2.a) ((b2 atI (some ki) (some s1)).map P2.b)))) (fun s1 => (b1 (fun y => (fun bc => (some (Fl.nx bc))) ((fun i j => i + j) s1 y)) (some (1 : Int)))) fuelN bc) fun s1 => (b1 (fun r => some (Fl.rt r)) (some s1))))
    (b2 Cq (b2 atI (some aa) (some cX)) (b2 atI (some aa) (some cm)))))
    (some (0 : Int)))
end Kj

namespace Kj
open PySem L2 PySem.Spec
def ZSt (h : Heap) (z TI TO i1 i2 l1 l2 S : Addr) (xs ys : Array Value) (i : Nat) : Prop :=
  IsPair h TI (.ref i1) (.ref i2) ∧ h.IsListIter i1 l1 i ∧ h.IsListIter i2 l2 i ∧ h.IsList l1 xs ∧ h.IsList l2 ys ∧
    ((IsZip h z TI TO .none ∧ ∃ a b, IsPair h TO a b) ∨ ∃ T f oT, IsZipHeld h z TI TO T f ∧ h.get? T = some oT ∧ T ≠ z ∧ T ≠ i1 ∧ T ≠ i2 ∧ T ≠ S)
structure ZOff (z TI TO i1 i2 l1 l2 S : Addr) : Prop where
  z : z ≠ S
  TI : TI ≠ S
  TO : TO ≠ S
  i1 : i1 ≠ S
  i2 : i2 ≠ S
  l1 : l1 ≠ S
  l2 : l2 ≠ S
structure ZG (xs ys : Array Value) (lo : Addr) (h : Heap) (as : List Addr) : Prop where
  rise : as.Pairwise (· < ·)
  above : ∀ a ∈ as, lo < a
  pairs : ∀ (j : Nat) (a : Addr), as[j]? = some a → ∃ x y, xs[j]? = some x ∧ ys[j]? = some y ∧ IsPair h a x y
section
variable {prog : Program} {w : World} {A : Around} {E : Value → Shared → Prop} {s : Shared} {z TI TO i1 i2 l1 l2 S : Addr} {xs ys : Array Value} {i : Nat}
theorem ZSt.keep {h h' : Heap} (x : ZSt h z TI TO i1 i2 l1 l2 S xs ys i) (o : ZOff z TI TO i1 i2 l1 l2 S) (hk : ∀ b o, b ≠ S → h.get? b = some o → h'.get? b = some o) : ZSt h' z TI TO i1 i2 l1 l2 S xs ys i := by
  obtain ⟨h1, h2, h3, h4, h5, h6⟩ := x
  refine ⟨hk _ _ o.TI h1, h2.at fun q e => hk _ q o.i1 e, h3.at fun q e => hk _ q o.i2 e, h4.at fun q e => hk _ q o.l1 e, h5.at fun q e => hk _ q o.l2 e, ?_⟩
  rcases h6 with ⟨hz, a, b, hp⟩ | ⟨T, f, oT, hz, hT, r1, r2, r3, r4⟩
  · exact .inl ⟨hk _ _ o.z hz, a, b, hk _ _ o.TO hp⟩
  · exact .inr ⟨T, f, oT, hk _ _ o.z hz, hk _ _ r4 hT, r1, r2, r3, r4⟩
end
section
variable {prog : Program} {w : World} {A : Around} {s : Shared} {R : Result → Shared → Prop} {z TI TO i1 i2 l1 l2 S : Addr} {xs ys : Array Value}
end
section
variable {prog : Program} {w : World} {A : Around} {s : Shared} {R : Result → Shared → Prop} {z TI TO i1 i2 l1 l2 S : Addr} {xs ys : Array Value}
end
end Kj

namespace Kj
open PySem L2 PySem.Spec
def Gx : Hp → List Addr → List (V × V) → Hp
  | H, a :: as, p :: ps => Gx (upd H a (.tup [p.1, p.2])) as ps
  | H, _, _ => H
def E8 (K : PySem.W.Frag) : List V → Hp → VK → Prop := fun vs H Q => ∃ a b xs ys, vs = [.ref a, .ref b] ∧ SqL K H a xs ∧ SqL K H b ys ∧
  ∀ (H' : Hp) (p : Addr) (ts : List Addr), (∀ b o, H b = some o → H' b = some o) → H p = none → (∀ t ∈ ts, H t = none) → p ∉ ts → H' p = some (.lst (ts.map V.ref)) → Paired (fun (t : Addr) (q : V × V) => H' t = some (.tup [q.1, q.2])) ts (xs.zip ys) → Q (.ref p) H'
def ER (K : PySem.W.Frag) (ta : TA) : TE := fun σ H Q => ta σ H fun vs H1 => E8 K vs H1 Q
section
variable {X : Cx} {e e2 : Expr} {ta : TA} {p p2 pos2 pos : Pos}
end
section
variable {Gw : WK} {H0 : Hp} {ρ ρ' : List Slot} {K : PySem.W.Frag} {f fa fb fc g : Bool} {ta tb tc te : TE} {α β γ δ : Type}
end
end Kj

namespace Kj
open PySem PySem.Spec PyProof.Rows L2
section
variable {prog : Program} {w : World} {A : Around} {R : Result → Shared → Prop} {I : Addr} {fp wr : List Addr} {G : Array GenState → Array GenState → Prop} {n : Nat} {P : Nat → Value → Prop} {St : Nat → Shared → Prop}
end
section
variable {P : Program} {w : World} {A : Around} {E : Value → Shared → Prop} {s : Shared}
end
def ES (K : PySem.W.Frag) (ta : TE) : TE := fun σ H Q => ta σ H fun x H1 => ∃ (l : Addr) (xs : List Str), x = V.ref l ∧ SqL K H1 l (xs.map V.str) ∧ xs.length < 64 ∧ xs.Nodup ∧ Q (.int (xs.length : Nat)) H1
def F8 (xs : List Str) : Option Int := if xs.length < 64 ∧ xs.Nodup then some (xs.length : Int) else none
end Kj

namespace Kj
open PySem L2
def Hh {α β : Type} (_ : P2 α β) : Option Int := some 2
end Kj

namespace Kj
open PySem L2
inductive RowsA (H : Hp) : List V → List (List Int) → Prop
  | nil : RowsA H [] []
  | cons {r : Addr} {vs : List V} {x : List Int} {xs : List (List Int)} : H r = some (.lst (x.map V.int)) → RowsA H vs xs → RowsA H (.ref r :: vs) (x :: xs)
theorem RowsA.mono {H H' : Hp} (s : Same H H') : ∀ {vs : List V} {xs : List (List Int)}, RowsA H vs xs → RowsA H' vs xs
  | _, _, .nil => .nil
  | _, _, .cons h t => .cons (s _ _ h) (t.mono s)
theorem RowsA.len {H : Hp} : ∀ {vs : List V} {xs : List (List Int)}, RowsA H vs xs → vs.length = xs.length
  | _, _, .nil => rfl
  | _, _, .cons _ t => by rw [List.length_cons, List.length_cons, t.len]
theorem RowsA.app {H : Hp} {r : Addr} {x : List Int} (hr : H r = some (.lst (x.map V.int))) : ∀ {vs : List V} {xs : List (List Int)}, RowsA H vs xs → RowsA H (vs ++ [.ref r]) (xs ++ [x])
  | _, _, .nil => .cons hr .nil
  | _, _, .cons h t => .cons h (t.app hr)
theorem RowsA.all {H : Hp} : ∀ {vs : List V} {xs : List (List Int)}, RowsA H vs xs → ∀ v ∈ vs, ∃ r x, v = .ref r ∧ H r = some (.lst (List.map V.int x))
  | _, _, .nil, v, h => by cases h
  | _, _, .cons h t, v, hv => by
    rcases List.mem_cons.mp hv with e | e
    · exact ⟨_, _, e, h⟩
    · exact t.all v e
theorem RowsA.dp {K : PySem.W.Frag} {H : Hp} : ∀ {vs : List V} {xs : List (List Int)}, RowsA H vs xs → DpAll K H vs (xs.map en)
  | _, _, .nil => .nil
  | _, _, .cons h t => .cons (.lst (SqL.of h) (mL _)) t.dp
def aLL (xs : List (List Int)) : Abs := ⟨fun v H => ∃ p vs, v = .ref p ∧ H p = some (.lst vs) ∧ RowsA H vs xs, fun v H H' s ⟨p, vs, e, h, t⟩ => ⟨p, vs, e, s _ _ h, t.mono s⟩⟩
section
variable {Gw : WK} {H0 : Hp} {ρ ρ' : List Slot} {K : PySem.W.Frag} {f fa fb fc g : Bool} {ta tb tc te : TE} {α β γ δ S S1 R : Type} {A : R → Abs} {B : S → List Slot} {t u w : TS}
end
def Gv : V → List V → Hp → VK → Prop := fun x vs H Q => ∃ l xs, x = .ref l ∧ vs = [] ∧ H l = some (.lst xs) ∧ Q .non (upd H l (.lst []))
theorem EnvOk.back {H0 : Hp} {σ : St} {ρ : List Slot} {H Hr H2 : Hp} (E : EnvOk H0 σ ρ H Hr) (s : Same H H2) : EnvOk H0 σ ρ H2 Hr := by
  refine ⟨E.base.trans s, E.sub.trans s, E.len, fun i sl hs => ?_, E.dis, E.reg.to (fun i A h => ⟨h, rfl⟩) (fun a o h1 h2 h3 _ => ⟨s _ _ h1, h2, h3⟩) fun j B p h1 h2 => .inl ⟨B, h1, h2⟩⟩
  have q := E.slot i sl hs
  cases sl with
  | no => trivial
  | reg A => trivial
  | dat A => exact q
  | new A => exact q
  | own B => obtain ⟨p, o, e1, e2, e3, e4, e5⟩ := q; exact ⟨p, o, e1, e2, e3, s _ _ e4, e5⟩
end Kj

namespace Kj
open PySem L2
def E5 {α β : Type} (xs : List α) (n : Int) (v : α) (k : List α → Option β) : Option β := match ixN xs.length n with | some j => k (xs.set j v) | none => none
section
variable {Gw : WK} {H0 : Hp} {ρ ρ' : List Slot} {K : PySem.W.Frag} {f fa fb fc g : Bool} {ta tb tc td te : TE} {α β γ δ S S1 R : Type} {A : R → Abs} {B : S → List Slot} {t u w : TS}
end
end Kj

namespace Kj
open PySem L2
def GU (K : PySem.W.Frag) (As : List Abs) : Abs := ⟨fun v H => ∃ p vs, v = .ref p ∧ SqL K H p vs ∧ AllP As vs H, fun v H H' s ⟨p, vs, e, h, t⟩ => ⟨p, vs, e, s.seq h, t.mono s⟩⟩
def w8 (K : PySem.W.Frag) (As : List Abs) : Abs := ⟨fun v H => ∃ p vs, v = .ref p ∧ SqT K H p vs ∧ AllP As vs H, fun v H H' s ⟨p, vs, e, h, t⟩ => ⟨p, vs, e, l4 s h, t.mono s⟩⟩
abbrev aLs {α : Type} (K : PySem.W.Frag) (A : α → Abs) (xs : List α) : Abs := GU K (xs.map A)
abbrev aT2 {α β : Type} (K : PySem.W.Frag) (A : α → Abs) (B : β → Abs) (x : P2 α β) : Abs := w8 K [A x.a, B x.b]
abbrev aT3 {α β γ : Type} (K : PySem.W.Frag) (A : α → Abs) (B : β → Abs) (C : γ → Abs) (x : P3 α β γ) : Abs := w8 K [A x.a, B x.b, C x.c]
abbrev aT4 {α β γ δ : Type} (K : PySem.W.Frag) (A : α → Abs) (B : β → Abs) (C : γ → Abs) (D : δ → Abs) (x : P4 α β γ δ) : Abs := w8 K [A x.a, B x.b, C x.c, D x.d]
theorem AllP.to_dpa {α : Type} [Enc α] {K : PySem.W.Frag} {H : Hp} : ∀ {xs : List α} {vs : List V}, AllP (xs.map (aE K)) vs H → DpAll K H vs (xs.map en)
  | [], _, h => by cases h; exact .nil
  | x :: xs, _, h => by
    cases h with
    | cons h1 h2 => exact .cons h1 (AllP.to_dpa h2)
theorem t9 {K : PySem.W.Frag} {H : Hp} : ∀ {ds : List PyData} {vs : List V}, DpAll K H vs ds → AllP (ds.map (aD K)) vs H
  | [], _, h => by cases h; exact .nil
  | d :: ds, _, h => by
    cases h with
    | cons h1 h2 => exact .cons h1 (t9 h2)
theorem EE {K : PySem.W.Frag} {ds : List PyData} {v : V} {H : Hp} (h : (aD K (.tuple ds)).p v H) : (w8 K (ds.map (aD K))).p v H := by
  have h : Dp K H v (.tuple ds) := h
  cases h with
  | tup hs hA =>
    refine ⟨_, _, rfl, hs, ?_⟩
    exact t9 hA
section
variable {H0 : Hp} {ρ ρ' ρ1 ρ2 : List Slot} {K : PySem.W.Frag} {f fa fb fc g : Bool} {ta tb tc td te : TE} {α β γ δ : Type} {A : α → Abs} {B : β → Abs} {C : γ → Abs} {D : δ → Abs}
theorem mP {t : TA} {A : Abs} {As : List Abs} (h : DE H0 ρ te f A) (hr : DA H0 ρ t f As) : DA H0 ρ (tCons te t) f (A :: As) := fun σ H Hr Q E k => h σ H Hr _ E fun v H1 Hr1 x1 a1 => hr σ H1 Hr1 _ (E.ext x1) fun vs H2 Hr2 x2 a2 =>
  k (v :: vs) H2 Hr2 (x1.trans x2) (.cons (A.mono _ _ _ (cK f H0 x2.r) a1) a2)
theorem oH : DA H0 ρ tNil f [] := fun σ H Hr Q E k => k [] H Hr (Ext.refl E.sub) .nil
def IN (H0 : Hp) (ρ : List Slot) (t : TA) (f : Bool) {α : Type} (A : α → Abs) (m : Option (List α)) : Prop := ∀ xs, m = some xs → DA H0 ρ t f (xs.map A)
theorem zG {H : Hp} : ∀ {As : List Abs} {vs : List V} {i : Int} {A : Abs}, AllP As vs H → atI As i = some A → ∃ v, atI vs i = some v ∧ A.p v H := fun {As vs i A} h e => by
  unfold atI at e ⊢
  rw [← h.length]
  cases q : ixN As.length i with
  | none => rw [q] at e; cases e
  | some j => rw [q] at e; obtain ⟨v, h1, h2⟩ := mW h j A e; exact ⟨v, h1, h2⟩
theorem Bt {As : List Abs} {i : Int} {A1 : Abs} (ha : DE H0 ρ ta f (w8 K As)) (hb : DE H0 ρ tb fb (aD K (.int i))) (hd : atI As i = some A1) : DE H0 ρ (tOp (rIxT K) ta tb) f A1 := fun σ H Hr Q E k => by
  refine ha σ H Hr _ E fun x H1 Hr1 x1 a1 => hb σ H1 Hr1 _ (E.ext x1) fun y H2 Hr2 x2 a2 => ?_
  cases a2
  obtain ⟨p, vs, rfl, hs, hA⟩ := a1
  obtain ⟨v, hv, hd'⟩ := zG (hA.mono (cK f H0 x2.r)) hd
  exact ⟨_, _, i, v, rfl, rfl, l4 ((bD f).trans (x2.r.trans x2.s)) hs, hv, k v H2 Hr2 (x1.trans x2) hd'⟩
theorem qZ {m : Option (P2 α β)} (h : DM H0 ρ ta f (aT2 K A B) m) : DM H0 ρ (tOp (rIxT K) ta (tC (.int 0))) f A (m.map P2.a) := fun x e => by
  obtain ⟨p, h1, rfl⟩ := Option.map_eq_some_iff.mp e
  exact Bt (fb := true) (h p h1) uY rfl
def DGs (H0 : Hp) (ρ : List Slot) (g : TGs) (f : Bool) (As : List Abs) (ρ' : List Slot) (vs : List Nat) : Prop :=
  ∀ (σ : St) (H Hr : Hp) (us : List V) (Q : St → Hp → Prop), EnvOk H0 σ ρ H Hr → AllP As us (hp f Hr H0) → (∀ σ', EnvOk H0 σ' ρ' H Hr → wipe σ' vs = wipe σ vs → Q σ' H) → g us σ H Q
theorem Bl {vs : List Nat} : DGs H0 ρ gNil f [] ρ vs := fun σ H Hr us Q E h k => by cases h; exact ⟨rfl, k σ E rfl⟩
theorem tX {A1 : Abs} {As : List Abs} {vs : List Nat} {g : TG} {gs : TGs} (h : DG H0 ρ g f A1 ρ1 vs) (t : DGs H0 ρ1 gs f As ρ2 vs) : DGs H0 ρ (gCons g gs) f (A1 :: As) ρ2 vs := fun σ H Hr us Q E hA k => by
  cases hA with
  | cons a as => exact ⟨_, _, rfl, h σ H Hr _ _ E a fun σ1 E1 w1 => t σ1 H Hr _ _ E1 as fun σ2 E2 w2 => k σ2 E2 (w2.trans w1)⟩
theorem Bm {As : List Abs} {vs : List Nat} {gs : TGs} {n : Nat} (h : DGs H0 ρ gs f As ρ1 vs) (hn : As.length = n := by rfl) : DG H0 ρ (gTup K n gs) f (w8 K As) ρ1 vs := fun σ H Hr v Q E hA k => by
  obtain ⟨a, us, rfl, hs, hA⟩ := hA
  exact ⟨a, us, rfl, l4 ((bD f).trans E.sub) hs, by rw [← hA.length]; exact hn, h σ H Hr us Q E hA k⟩
theorem D0 {A1 A2 : Abs} {vs : List Nat} {g : TG} (h : DG H0 ρ g f A1 ρ1 vs) (i : ∀ v G, A2.p v G → A1.p v G) : DG H0 ρ g f A2 ρ1 vs := fun σ H Hr v Q E a k => h σ H Hr v Q E (i _ _ a) k
theorem FQ [Enc α] [Enc β] {x : P2 α β} {vs : List Nat} {gs : TGs} (h : DGs H0 ρ gs f [aE K x.a, aE K x.b] ρ1 vs) : DG H0 ρ (gTup K 2 gs) f (aE K x) ρ1 vs := D0 (Bm h) fun v G a => EE (ds := [en x.a, en x.b]) a
theorem Cj {A1 : Abs} {i : Nat} {vs : List Nat} (hi : Nat.blt i ρ.length = true := by rfl) (hv : vs.contains i = true := by rfl) : DG H0 ρ (gName i) f A1 (ρ.set i (sl f A1)) vs := fun σ H Hr v Q E a k => k _ (E.set (kB hi) a) (kg (by simpa using hv))
end
def spR (S : Spec) : Sp := fun vs H Q _ => ∃ As R Hr, S As R ∧ Same Hr H ∧ AllP As vs Hr ∧ ∀ v H' Hr', Ext H Hr H' Hr' → R.p v Hr' → Q v H'
def mn (Hr1 Hr2 : Hp) : Hp := fun a => match Hr1 a with | some o => some o | none => Hr2 a
theorem Ay {Hr1 Hr2 : Hp} : Same Hr1 (mn Hr1 Hr2) := fun a o h => by unfold mn; rw [h]
theorem Aw {H Hr1 Hr2 : Hp} (s1 : Same Hr1 H) (s2 : Same Hr2 H) : Same Hr2 (mn Hr1 Hr2) := fun a o h => by
  unfold mn
  cases q : Hr1 a with
  | none => exact h
  | some u => have := s1 _ _ q; rw [s2 _ _ h] at this; exact this.symm
theorem Ext.sub {H0 H1 Hr1 H2 Hr2 : Hp} {f : Bool} (b : Same H0 H1) (s : Same Hr1 H1) (x : Ext H1 (hp f Hr1 H0) H2 Hr2) : Ext H1 Hr1 H2 (mn Hr1 Hr2) ∧ Same Hr2 (hp f (mn Hr1 Hr2) H0) := by
  have sj : Same Hr2 (mn Hr1 Hr2) := Aw (s.trans x.h) x.s
  refine ⟨⟨x.h, Ay, fun a o h => ?_, fun a o h h' => ?_⟩, ?_⟩
  · unfold mn at h
    cases q : Hr1 a with
    | some u => rw [q] at h; cases h; exact x.h _ _ (s _ _ q)
    | none => rw [q] at h; exact x.s _ _ h
  · unfold mn at h
    rw [h'] at h
    exact x.n a o h ((bD f).free h')
  · cases f
    · exact sj
    · intro a o h
      refine bu.mpr ⟨?_, sj _ _ h⟩
      cases q : (mns Hr1 H0) a with
      | some u => exact (bu.mp q).1
      | none => exact b.free (x.n a o h q)
section
variable {H0 : Hp} {ρ ρ' : List Slot} {K : PySem.W.Frag} {f fa fb : Bool} {ta tb te : TE} {α β γ δ : Type}
theorem tZ {S : Spec} {As : List Abs} {R : Abs} {t : TA} {Ex : XK} (ha : DA H0 ρ t f As) (hs : S As R) : DE H0 ρ (tCall (spR S) [] Ex t) f R := fun σ H Hr Q E k => by
  refine ha σ H Hr _ E fun vs H1 Hr1 x1 a1 => ?_
  show spR S (vs ++ []) H1 Q Ex
  rw [List.append_nil]
  have E1 := E.ext x1
  refine ⟨As, R, hp f Hr1 H0, hs, (bD f).trans x1.s, a1, fun v H2 Hr2 x2 r2 => ?_⟩
  obtain ⟨x3, s3⟩ := Ext.sub E1.base E1.sub x2
  exact k v H2 _ (x1.trans x3) (R.mono _ _ _ s3 r2)
end
theorem uI {H Hr : Hp} (s : Same Hr H) : ∀ {As : List Abs} {vs : List V} (n : Nat), AllP As vs Hr → EnvOk (mns H Hr) (vs.map some ++ List.replicate n none) (As.map Slot.new ++ List.replicate n Slot.no) H Hr := fun {As vs} n h => by
  have hl := h.length
  have cls : ∀ (i : Nat) (s : Slot), (As.map Slot.new ++ List.replicate n Slot.no)[i]? = some s → s = .no ∨ ∃ A, s = .new A ∧ As[i]? = some A := fun i s hs => by
    by_cases hi : i < As.length
    · rw [List.getElem?_append_left (by simpa using hi), List.getElem?_map, List.getElem?_eq_getElem hi] at hs
      exact .inr ⟨As[i], (Option.some.inj hs).symm, List.getElem?_eq_getElem hi⟩
    · rw [List.getElem?_append_right (by simpa using Nat.le_of_not_lt hi)] at hs
      obtain ⟨z, e⟩ := List.getElem?_eq_some_iff.mp hs
      rw [List.getElem_replicate] at e
      exact .inl e.symm
  refine ⟨fun a o q => (bu.mp q).2, s, by simp [hl], fun i s hs => ?_, fun i j p B B' _ hi _ _ _ => ?_, .nil fun i A h => by rcases cls i _ h with e | ⟨A, e, _⟩ <;> cases e⟩
  · rcases cls i s hs with rfl | ⟨A, rfl, hA⟩
    · trivial
    · obtain ⟨v, h1, h2⟩ := mW h i A hA
      have hi : i < vs.length := (List.getElem?_eq_some_iff.mp h1).1
      exact ⟨v, by rw [List.getElem?_append_left (by simpa using hi), List.getElem?_map, h1]; rfl, A.mono _ _ _ (fun a o q => bu.mpr ⟨by unfold mns; rw [q], q⟩) h2⟩
  · rcases cls i _ hi with e | ⟨A, e, _⟩ <;> cases e
section
variable {P : Program} {w : World} {K : PySem.W.Frag} {mg : Str → Option Value} {base : Heap}
theorem pi {x qual : Str} {st : Stmt} {f : Addr} {fd : FuncData} {N ps : List Str} {k : Nat} {S : Spec} (F : FnP K x qual st f fd) (Sc : FnScope N ps (defScope st)) (len : ∀ As R, S As R → As.length = ps.length)
    (body : ∀ (cdv : Value) (A : Around) (outer : List Env) (s : Shared) (H : Hp) (E : XK), Room k (A.deeper (PyProof.Rows.envOfC qual (defScope st) s.heap.objs.size f cdv)) →
      ∃ t, PSs (cxOf CX0 P w K mg base N qual (defScope st) f cdv A outer s H E).nox (defBody st) t ∧ ∀ H0 As R, S As R → DS C0 H0 (As.map Slot.new ++ List.replicate (N.length - As.length) Slot.no) t (fun _ => ∀ G, R.p .non G) R) : FnOk P w K mg base CX0 (k + 1) f fd ps (spR S) := by
  refine F.ok Sc (fun vs H Q E h => ?_) (fun cdv A outer s H vs Q E hr h => ?_)
  · obtain ⟨As, R, Hr, h1, _, h2, _⟩ := h
    rw [← h2.length]; exact len As R h1
  · obtain ⟨As, R, Hr, h1, hs, h2, h3⟩ := h
    obtain ⟨t, p, d⟩ := body cdv A outer s H E hr
    have out : ∀ v H', Same (mns H Hr) H' → Same Hr H' → R.p v (mns H' (mns H Hr)) → Q v H' := fun v H' s1 s2 r => by
      have sH : Same H H' := fun a o q => by
        cases z : Hr a with
        | some u => have := hs _ _ z; rw [q] at this; cases this; exact s2 _ _ z
        | none => exact s1 _ _ (bu.mpr ⟨z, q⟩)
      refine h3 v H' _ (Ext.call hs (Same.refl H) sH) (R.mono _ _ _ (fun a o q => ?_) r)
      obtain ⟨q1, q2⟩ := bu.mp q
      unfold nN
      cases z : Hr a with
      | some u => have := s2 _ _ z; rw [q2] at this; exact this.symm
      | none =>
        refine bu.mpr ⟨?_, q2⟩
        cases y : H a with
        | none => rfl
        | some u => rw [bu.mpr ⟨z, y⟩] at q1; cases q1
    refine ⟨t, p.nox, d _ As R h1 _ H Hr _ ?_ (fun _ _ H' _ n E' s => out .non H' E'.base (s.trans E'.sub) (n _)) out (KX.no fun _ _ _ _ z => z)⟩
    have e := uI hs (n := N.length - vs.length) h2
    unfold L2.start
    rw [h2.length]
    exact e
end
end Kj

namespace Kj
open PySem PySem.Spec PyProof.Rows L2
abbrev FF : Value → Shared → Prop := fun _ _ => False
abbrev Bd := L2.St → Hp → (Hp → Prop) → Prop
abbrev Rn := Shared → (Shared → Prop) → Prop
def Wrk (Y : Cx) (us : List Nat) (B : Bd) (run : Rn) : Prop :=
  ∀ (pins : List (Addr × Obj)) (s : Shared) (σ : L2.St) (H : Hp) (Nx : Hp → Prop) (Po : Shared → Prop), Inv Y pins σ H s → B σ H Nx →
    (∀ s' σ' H', Inv Y pins σ' H' s' → σ'.length = σ.length → (∀ (j : Nat) v, j ∉ us → σ[j]? = some (some v) → σ'[j]? = some (some v)) → Nx H' → Po s') → run s Po
def LpR (J : It) (g : TG) (tt : TT) (B : Bd) (us : List Nat) (σ : L2.St) (H : Hp) (Nx : Hp → Prop) : Prop :=
  ∃ W : Nat → Nat → Hp → Prop, (∃ m, W 0 m H) ∧ ∀ i m G, W i m G → (J.stop i G ∧ Nx G) ∨ (J.go i G ∧ ∃ N' : Hp → Prop, (∀ G', N' G' → ∃ m', m' < m ∧ W (i + 1) m' G') ∧
    ∀ x G', J.yld i G x G' → g x (wipe σ us) G' fun σ2 H2 => wipe σ2 us = wipe σ us ∧ tt σ2 H2 fun b H3 => if b = true then B σ2 H3 N' else N' H3)
def F3 (P : Program) (w : World) (A : Around) (env : Env) (c : Expr) (k : Nat) (t0 : Expr) (ifs0 : List Expr) (it : Addr) (acc : Value) (run : Rn) : Prop :=
  ∀ (R : Result → Shared → Prop) (I : Nat → Shared → Prop), (∀ n s, I n s → wpAny (model P w) A (pyNext (.ref it)) (fun r s1 => match r with
      | none => R (.ok .next) s1
      | some v => wpAny (model P w) A (letOwnedTupleGo t0 (.ref it) v) (fun _ s2 => wpAny (model P w) A (assign t0 env v) (fun _ s3 =>
          wpAny (model P w) A (forIn ifs0 true fun c r => if r = true then do let ok ← isTrue c env (eval c env); pure (ForInStep.yield ok) else pure (ForInStep.yield r)) (fun ok s4 =>
            if ok = true then run s4 (fun s' => ∃ m, m < n ∧ I m s') else ∃ m, m < n ∧ I m s4) FF s3) FF s2) FF s1) FF s) →
    ∀ n s, I n s → codeAny (model P w) A (.compLoop c k (.ref it) acc env) R s
abbrev Gg (env : Env) (ifs : List Expr) : Sem Bool := forIn ifs true fun c r => if r = true then do let ok ← isTrue c env (eval c env); pure (ForInStep.yield ok) else pure (ForInStep.yield r)
def Id (P : Program) (w : World) (A : Around) (env : Env) (elt : Expr) (acc : Value) : Rn := fun s Po => wpAny (model P w) A (eval elt env) (fun x s1 => wpAny (model P w) A (call (.builtin "list.append") [acc, x]) (fun _ s2 => Po s2) FF s1) FF s
def G8 (P : Program) (w : World) (A : Around) (env : Env) (c : Expr) (k : Nat) (j1 : Expr) (acc : Value) : Rn := fun s Po => wpAny (model P w) A (eval j1 env) (fun x s1 => wpAny (model P w) A (pyIter x) (fun i2 s2 =>
  codeAny (model P w) A (.compStart c k i2 acc env) (fun r s' => match r with
    | .ok _ => Po s'
    | .error _ => False) s2) FF s1) FF s
section
variable {P : Program} {w : World} {A : Around} {env : Env} {c t0 j0 j1 elt : Expr} {ifs0 : List Expr} {k : Nat} {it : Addr} {acc : Value}
end
section
variable {P : Program} {w : World} {A : Around} {env : Env} {elt t0 i0 t1 i1 t2 i2 : Expr} {f0 f1 f2 : List Expr} {scope : Scope} {pos : Pos} {it : Addr} {acc : Value}
abbrev Io (elt t0 i0 t1 i1 t2 i2 : Expr) (f0 f1 f2 : List Expr) (scope : Scope) (pos : Pos) : Expr := .ListComp elt [⟨t0, i0, f0, 0⟩, ⟨t1, i1, f1, 0⟩, ⟨t2, i2, f2, 0⟩] scope pos
end
def EK (P : Program) (w : World) (A : Around) (env : Env) (c : Expr) (k : Nat) (acc : Value) : Prop := ∀ (it : Addr) (R : Result → Shared → Prop) (s : Shared),
  codeAny (model P w) A (.compLoop c k (.ref it) acc env) R s → wpAny (model P w) A (pyIter (.ref it)) (fun it' s' => codeAny (model P w) A (.compLoop c k it' acc env) R s') FF s → codeAny (model P w) A (.compStart c k (.ref it) acc env) R s
section
variable {P : Program} {w : World} {A : Around} {env : Env} {elt t0 i0 t1 i1 t2 i2 : Expr} {f0 f1 f2 : List Expr} {scope : Scope} {pos : Pos} {acc : Value}
end
def bIn (te : TE) (D : Addr) : Bd := fun σ H Nx => te σ H fun y H1 => ∃ acc, H1 D = some (.lst acc) ∧ acc.length < sizeLine ∧ Nx (upd H1 D (.lst (acc ++ [y])))
def Iy (wi : TI) (g : TG) (tt : TT) (vs : List Nat) (B : Bd) : Bd := fun σ H Nx => wi σ H fun J H1 => LpR J g tt B vs σ H1 Nx
end Kj

namespace Kj
open PySem PySem.Spec PyProof.Rows L2
def HM (wi : TI) (g : TG) (tt : TT) (B : Addr → Bd) (us : List Nat) : TE := fun σ H Q => wi σ H fun J H1 => ∀ D, H1 D = none → LpR J g tt (B D) us σ (upd H1 D (.lst [])) fun H' => Q (.ref D) H'
section
variable {X : Cx}
abbrev fQ (X : Cx) (Q : Cx → Prop) (scope : Scope) : Prop := ∀ (s : Shared) (H : Hp) (C : Addr) (cl : List (Str × Addr)) (fp : List Addr), Q (X.blk s H scope (compEnvC scope cl C X.env) fp)
end
end Kj

namespace Kj
open PySem L2
structure ExtX (D : Addr) (H Hr H' Hr' : Hp) : Prop where
  h : ∀ a o, a ≠ D → H a = some o → H' a = some o
  r : Same Hr Hr'
  s : Same Hr' H'
  n : ∀ a o, Hr' a = some o → Hr a = none → H a = none
theorem Ext.x {D : Addr} {H Hr H' Hr' : Hp} (x : Ext H Hr H' Hr') : ExtX D H Hr H' Hr' := ⟨fun a o _ h => x.h a o h, x.r, x.s, x.n⟩
theorem ExtX.trans {D : Addr} {H Hr H1 Hr1 H2 Hr2 : Hp} {u : HO} (hD : H D = some u) (x : ExtX D H Hr H1 Hr1) (y : ExtX D H1 Hr1 H2 Hr2) (hr : Hr2 D = none) : ExtX D H Hr H2 Hr2 := ⟨fun a o n h => y.h a o n (x.h a o n h), x.r.trans y.r, y.s, fun a o h h' => by
  cases q : Hr1 a with
  | some v => exact x.n a v q h'
  | none =>
    have n : a ≠ D := fun z => by subst z; rw [hr] at h; cases h
    have := y.n a o h q
    cases q2 : H a with
    | none => rfl
    | some v => rw [x.h a v n q2] at this; cases this⟩
def sU (ρ : List Slot) (i : Nat) : Bool := match ρ[i]? with | some (.own _) => true | _ => false
def uk (r' ρ : List Slot) (vs : List Nat) : Bool := ((List.range r'.length).all fun i => !sU r' i || (sU ρ i && !vs.contains i)) && g9 r'
def mX (ρ : List Slot) (σ : St) (D : Addr) : Prop := ∀ (i : Nat) (B : AbsO) (p : Addr), ρ[i]? = some (.own B) → σ[i]? = some (some (.ref p)) → p ≠ D
theorem wF {r' ρ : List Slot} {vs : List Nat} (h : uk r' ρ vs = true) {i : Nat} {B : AbsO} (hi : r'[i]? = some (.own B)) : (∃ B', ρ[i]? = some (.own B')) ∧ i ∉ vs := by
  unfold uk at h
  rw [Bool.and_eq_true, List.all_eq_true] at h
  replace h := h.1
  have lt : i < r'.length := (List.getElem?_eq_some_iff.mp hi).1
  have q := h i (List.mem_range.mpr lt)
  have e : sU r' i = true := by unfold sU; rw [hi]
  rw [e] at q
  simp only [Bool.not_true, Bool.false_or, Bool.and_eq_true, Bool.not_eq_true', List.contains_eq_mem, decide_eq_false_iff_not] at q
  refine ⟨?_, q.2⟩
  have q1 := q.1
  unfold sU at q1
  split at q1
  · rename_i B' hB; exact ⟨B', hB⟩
  · cases q1
theorem mX.tg {r' ρ : List Slot} {vs : List Nat} {σ σ2 : St} {D : Addr} (o : mX ρ σ D) (h : uk r' ρ vs = true) (hw : wipe σ2 vs = wipe σ vs) : mX r' σ2 D := fun i B p hi hp => by
  obtain ⟨⟨B', h1⟩, h2⟩ := wF h hi
  refine o i B' p h1 ?_
  rw [← wipe_out h2 (σ := σ), ← hw, wipe_out h2]
  exact hp
theorem mX.ext {ρ : List Slot} {σ : St} {D : Addr} {H0 H Hr : Hp} (E : EnvOk H0 σ ρ H Hr) (hD : H D = none) : mX ρ σ D := fun i B p h1 h2 => by
  obtain ⟨q, o, q1, _, _, q4, _⟩ := E.slot i _ h1
  rw [h2] at q1
  cases q1
  exact ne_of_none q4 hD
theorem qH : ∀ {vs : List Nat} {ρ : List Slot} {i : Nat} {B : AbsO}, (jc ρ vs)[i]? = some (.own B) → ρ[i]? = some (.own B)
  | [], _, _, _, h => h
  | v :: vs, ρ, i, B, h => by
    unfold jc at h
    by_cases e : v = i
    · subst e
      by_cases hl : v < (jc ρ vs).length
      · rw [List.getElem?_set_self hl] at h; cases h
      · rw [List.getElem?_eq_none (by rw [List.length_set]; omega)] at h; cases h
    · rw [List.getElem?_set_ne e] at h
      exact qH h
theorem xi {vs : List Nat} {σ : St} {i : Nat} {p : Addr} (h : (wipe σ vs)[i]? = some (some (.ref p))) : σ[i]? = some (some (.ref p)) := (wipe_some h).1
theorem mX.wipe {ρ : List Slot} {σ : St} {D : Addr} (o : mX ρ σ D) (vs : List Nat) : mX (jc ρ vs) (wipe σ vs) D := fun i B p h1 h2 => o i B p (qH h1) (xi h2)
def DBd (K : PySem.W.Frag) (H0 : Hp) (ρ : List Slot) (f : Bool) (B : Addr → Bd) (ys : List PyData) : Prop :=
  ∀ (D : Addr) (σ : St) (H Hr : Hp) (acc : List V) (Nx : Hp → Prop), EnvOk H0 σ ρ H Hr → mX ρ σ D → H0 D = none → Hr D = none → H D = some (.lst acc) → acc.length + ys.length ≤ 100000 →
    (∀ H' Hr' zs, ExtX D H Hr H' Hr' → Hr' D = none → H' D = some (.lst (acc ++ zs)) → DpAll K (hp f Hr' H0) zs ys → Nx H') → B D σ H Nx
theorem ExtX.off {D : Addr} {H Hr H' Hr' : Hp} {u : HO} (x : ExtX D H Hr H' Hr') (hr : Hr D = none) (hD : H D = some u) : Hr' D = none := by
  cases z : Hr' D with
  | none => rfl
  | some v => have := x.n D v z hr; rw [hD] at this; cases this
def tot (ys : Nat → List PyData) : Nat → List PyData
  | 0 => []
  | n + 1 => tot ys n ++ ys n
section
variable {H0 : Hp} {ρ : List Slot} {K : PySem.W.Frag} {f fa fb : Bool} {ta tb te : TE} {α β γ : Type}
def lS {α β : Type} (g : α → Option (List β)) : List α → Option (List β)
  | [] => some []
  | x :: xs => (g x).bind fun ys => (lS g xs).bind fun zs => some (ys ++ zs)
@[irreducible] def lim {β : Type} (xs : List β) : Option (List β) := if xs.length ≤ 100000 then some xs else none
def wG {β : Type} (y : β) : Option (List β) := some [y]
def DBm (K : PySem.W.Frag) (H0 : Hp) (ρ : List Slot) (f : Bool) (B : Addr → Bd) {β : Type} [Enc β] (m : Option (List β)) : Prop := ∀ ys, m = some ys → DBd K H0 ρ f B (ys.map en)
end
end Kj

namespace Kj
open PySem PySem.Spec PySem.SeqAt PyProof.Rows L2
def ET (K : PySem.W.Frag) (ta : TE) : TE := fun σ H Q => ta σ H fun x H1 => ∃ (l : Addr) (ns : List Int), x = V.ref l ∧ SqL K H1 l (ns.map V.int) ∧ ns.length < 1000 ∧ Q (.int ((lG ns).length : Nat)) H1
@[irreducible] def lenSetIM (ns : List Int) : Option Int := if ns.length < 1000 then some ((lG ns).length : Nat) else none
def BN (bs : List Bool) : Option Bool := some (bs.any id)
section
variable {H0 : Hp} {ρ : List Slot} {K : PySem.W.Frag} {f fa : Bool} {te : TE}
end
end Kj

namespace Kj
open PySem L2
def xO (f : Str) (A : Abs) : List (Str × Abs) → List (Str × Abs)
  | [] => [(f, A)]
  | (g, B) :: r => if g = f then (g, A) :: r else (g, B) :: xO f A r
theorem FAll.put {f : Str} {A : Abs} {v : V} {H : Hp} (a : A.p v H) : ∀ {fas : List (Str × Abs)} {fs : List (Str × V)}, FAll fas fs H → FAll (xO f A fas) (putF f v fs) H
  | _, _, .nil => .cons a .nil
  | _, _, .cons (n := n) h t => by
    unfold xO putF
    by_cases e : n = f
    · rw [if_pos e, if_pos e]; exact .cons a t
    · rw [if_neg e, if_neg e]; exact .cons h (t.put a)
theorem FAll.len {H : Hp} : ∀ {fas : List (Str × Abs)} {fs : List (Str × V)}, FAll fas fs H → fas.length = fs.length
  | _, _, .nil => rfl
  | _, _, .cons _ t => by rw [List.length_cons, List.length_cons, t.len]
section
variable {Gw : WK} {C' : WZ} {H0 : Hp} {ρ ρ' : List Slot} {K : PySem.W.Frag} {f fa fb : Bool} {ta tb tc td te : TE} {α β γ δ ε S S1 R : Type} {A : R → Abs} {B : S → List Slot} {t u w : TS} {C : Addr} {fas : List (Str × Abs)}
theorem Ba {Rr : Abs} {i : Nat} {x : Str} {xo dx : Addr} {A1 : Abs} (hi : ρ[i]? = some (.own (qo xo C dx fas))) (h : DE H0 ρ te true A1) (hc : Cls K C) (hn : NoAttr K C x) (hl : fas.length < 1000) : DS C' H0 ρ (sFld K (tVar i) te x) (fun r => r = ρ.set i (.own (qo xo C dx (xO x A1 fas)))) Rr := fun σ H Hr D E kn kr kx => by
  refine h σ H Hr _ E fun v H1 Hr1 x1 a1 => ?_
  have E1 := E.ext x1
  obtain ⟨p, o, e1, e2, e3, e4, ep, fs, rfl, q⟩ := E1.slot i _ hi
  exact ⟨.ref p, e1, p, C, dx, fs, rfl, e4, hc, hn, by rw [← q.len]; exact hl, kn _ _ _ Hr1 rfl (E1.wr hi e1 ⟨ep, _, rfl, q.put a1⟩) x1.r⟩
theorem BD {i : Nat} {x : Str} {xo dx : Addr} {Bf : α → Abs} {m : Option α} {k : α → Option (Fl S R)} (hi : ρ[i]? = some (.own (qo xo C dx fas))) (h : DM H0 ρ te true Bf m) (hc : Cls K C) (hn : NoAttr K C x)
    (hk : ∀ y, DB Gw H0 (ρ.set i (.own (qo xo C dx (xO x (Bf y) fas)))) u A (k y) B) (hl : Nat.blt fas.length 1000 = true := by rfl) : DB Gw H0 ρ (tSeq (sFld K (tVar i) te x) u) A (b1 k m) B := fun fl e => by
  obtain ⟨y, h1, h2⟩ := cC e
  exact mK (Ba hi (h y h1) hc hn (kB hl)) (hk y fl h2)
def H8 (S : List Abs → List (Str × Abs) → Prop) (C : Addr) : Sp := fun vs H Q _ => ∃ x dx As fas rest Hr, vs = .ref x :: rest ∧ H x = some (.ins C dx []) ∧ S As fas ∧ Same Hr (rm H x) ∧ AllP As rest Hr ∧
  ∀ H' Hr' fs, Ext (rm H x) Hr (rm H' x) Hr' → H' x = some (.ins C dx fs) → FAll fas fs Hr' → Q .non H'
variable {A1 : α → Abs} {B1 : β → Abs} {D1 : δ → Abs} {E1 : ε → Abs} {C1 : γ → Abs} {Ex : XK} {ma : Option α} {mb : Option β} {md : Option δ} {me : Option ε}
theorem w4 {F : α → Option γ} (h1 : DM H0 ρ ta f A1 ma) : DM H0 ρ (tCall (spR (sp1 A1 C1 F)) [] Ex (tCons ta tNil)) f C1 (b1 F ma) := fun x e => by
  obtain ⟨a, e1, h⟩ := cC e
  exact tZ (mP (h1 _ e1) oH) ⟨a, x, rfl, h, rfl⟩
theorem q7 {F : α → β → Option γ} (h1 : DM H0 ρ ta f A1 ma) (h2 : DM H0 ρ tb f B1 mb) : DM H0 ρ (tCall (spR (sp2 A1 B1 C1 F)) [] Ex (tCons ta (tCons tb tNil))) f C1 (b2 F ma mb) := fun x e => by
  obtain ⟨a, b, e1, e2, h⟩ := cq e
  exact tZ (mP (h1 _ e1) (mP (h2 _ e2) oH)) ⟨a, b, x, rfl, h, rfl⟩
variable {Cl : Addr} {m : Str} {O : α → List (Str × Abs)}
end
section
variable {P : Program} {w : World} {K : PySem.W.Frag} {mg : Str → Option Value} {base : Heap}
end
end Kj

namespace Kj
open PySem L2
def Fr (v : Int) : List Int → Option Nat
  | [] => none
  | x :: xs => if x = v then some 0 else (Fr v xs).map (· + 1)
def C7 (xs : List Int) (v : Int) : Option Int := (Fr v xs).map Int.ofNat
section
variable {Gw : WK} {H0 : Hp} {ρ ρ' : List Slot} {K : PySem.W.Frag} {f fa fb fc g : Bool} {ta tb tc te : TE} {α β γ δ S S1 R : Type} {A : R → Abs} {B : S → List Slot} {t u w : TS}
def IF (p : Addr) (A : Abs) : Abs := ⟨fun v H => v = .ref p ∧ A.p v H, fun v _ _ s ⟨e, h⟩ => ⟨e, A.mono _ _ _ s h⟩⟩
inductive NoDat : List Slot → Prop
  | nil : NoDat []
  | no {l : List Slot} : NoDat l → NoDat (.no :: l)
  | new {A : Abs} {l : List Slot} : NoDat l → NoDat (.new A :: l)
  | own {B : AbsO} {l : List Slot} : NoDat l → NoDat (.own B :: l)
theorem NoDat.at : ∀ {l : List Slot}, NoDat l → ∀ (i : Nat) (A : Abs), l[i]? ≠ some (.dat A)
  | _, .nil, i, A, h => by simp at h
  | _, .no t, 0, A, h => by simp at h
  | _, .new t, 0, A, h => by simp at h
  | _, .own t, 0, A, h => by simp at h
  | _, .no t, i + 1, A, h => t.at i A (by simpa using h)
  | _, .new t, i + 1, A, h => t.at i A (by simpa using h)
  | _, .own t, i + 1, A, h => t.at i A (by simpa using h)
end
end Kj
namespace Kj
open PySem L2
end Kj

namespace Kj
open PySem L2
def Fp (i : Nat) (v : Int) (row : List Int) : List Int := row.take i ++ [v] ++ row.drop i
def vM (c w : Int) : Int := if c = 0 then w % 5 / 2 else if c = 1 then w % 4 / 2 else if w % 7 = 1 then 1 else if w % 7 = 4 then 2 else 0
def rp (w v : Int) (xs : List (List Int)) : List (List Int) :=
  if (xs.getD (w / 35 % xs.length).toNat []).length < 12 then xs.set (w / 35 % xs.length).toNat (Fp (w / 105 % ((xs.getD (w / 35 % xs.length).toNat []).length + 1)).toNat v (xs.getD (w / 35 % xs.length).toNat [])) else xs
def AI (c w v : Int) (t : List (List Int) × List (List Int)) : List (List Int) × List (List Int) :=
  if vM c w = 0 then (rp w v t.1, t.2) else if vM c w = 1 then (t.1, rp w v t.2) else t
def uz (d : List Int) : Nat → List (List Int) × List (List Int)
  | 0 => (List.replicate (1 + d.getD 0 0 % 3).toNat [], List.replicate (1 + d.getD 1 0 % 3).toNat [])
  | k + 1 => AI (d.getD 2 0 % 3) (d.getD (3 + k) 0) k (uz d k)
@[irreducible] def f_law_fields (many : Int) (d : List Int) : Option (List (List (List Int))) :=
  if 0 ≤ many ∧ many ≤ 1000 ∧ many + 3 ≤ d.length then some [(uz d many.toNat).1, (uz d many.toNat).2] else none
def jp (H : Hp) (rs : List Addr) (xs : List (List Int)) : Prop := rs.length = xs.length ∧ ∀ (i : Nat) (r : Addr) (x : List Int), rs[i]? = some r → xs[i]? = some x → H r = some (.lst (x.map V.int))
structure Tr2 (H0 Hr H : Hp) (p f0 f1 : Addr) (r0 r1 : List Addr) (x0 x1 : List (List Int)) : Prop where
  hp : H p = some (.lst [.ref f0, .ref f1])
  h0 : H f0 = some (.lst (r0.map .ref))
  h1 : H f1 = some (.lst (r1.map .ref))
  a0 : jp H r0 x0
  a1 : jp H r1 x1
  nd : (p :: f0 :: f1 :: (r0 ++ r1)).Nodup
  fr : ∀ a ∈ p :: f0 :: f1 :: (r0 ++ r1), H0 a = none ∧ Hr a = none ∧ ∃ o, H a = some o
theorem jp.same {H H' : Hp} {rs : List Addr} {xs : List (List Int)} (h : jp H rs xs) (s : ∀ r ∈ rs, H' r = H r) : jp H' rs xs := ⟨h.1, fun i r x h1 h2 => by rw [s r (List.mem_of_getElem? h1)]; exact h.2 i r x h1 h2⟩
theorem Tr2.ext {H0 Hr H Hr' H' : Hp} {p f0 f1 : Addr} {r0 r1 : List Addr} {x0 x1 : List (List Int)} (t : Tr2 H0 Hr H p f0 f1 r0 r1 x0 x1) (x : Ext H Hr H' Hr') : Tr2 H0 Hr' H' p f0 f1 r0 r1 x0 x1 := by
  refine ⟨x.h _ _ t.hp, x.h _ _ t.h0, x.h _ _ t.h1, ⟨t.a0.1, fun i r y e1 e2 => x.h _ _ (t.a0.2 i r y e1 e2)⟩, ⟨t.a1.1, fun i r y e1 e2 => x.h _ _ (t.a1.2 i r y e1 e2)⟩, t.nd, fun a ha => ?_⟩
  obtain ⟨q1, q2, o, q3⟩ := t.fr a ha
  refine ⟨q1, ?_, o, x.h _ _ q3⟩
  cases z : Hr' a with
  | none => rfl
  | some u => have := x.n a u z q2; rw [q3] at this; cases this
theorem Fj {p f0 f1 : Addr} {r0 r1 : List Addr} (h : (p :: f0 :: f1 :: (r0 ++ r1)).Nodup) : p ≠ f0 ∧ p ≠ f1 ∧ f0 ≠ f1 ∧ (∀ r, r ∈ r0 ∨ r ∈ r1 → r ≠ p ∧ r ≠ f0 ∧ r ≠ f1) ∧ (∀ r ∈ r0, r ∉ r1) ∧ r0.Nodup ∧ r1.Nodup := by
  rw [List.nodup_cons, List.nodup_cons, List.nodup_cons, List.nodup_append] at h
  obtain ⟨g1, g2, g3, g4, g5, g6⟩ := h
  simp only [List.mem_cons, List.mem_append, not_or] at g1 g2 g3
  refine ⟨g1.1, g1.2.1, g2.1, fun r hr => ⟨fun z => ?_, fun z => ?_, fun z => ?_⟩, fun r h1 h2 => g6 r h1 r h2 rfl, g4, g5⟩
  · subst z; exact hr.elim g1.2.2.1 g1.2.2.2
  · subst z; exact hr.elim g2.2.1 g2.2.2
  · subst z; exact hr.elim g3.1 g3.2
theorem jp.set {H : Hp} {rs : List Addr} {xs : List (List Int)} (h : jp H rs xs) (nd : rs.Nodup) {j : Nat} {r : Addr} (hr : rs[j]? = some r) (y : List Int) : jp (upd H r (.lst (y.map V.int))) rs (xs.set j y) := by
  refine ⟨by rw [List.length_set]; exact h.1, fun i q x e1 e2 => ?_⟩
  by_cases e : q = r
  · subst e
    have hi : i = j := by
      obtain ⟨l1, k1⟩ := List.getElem?_eq_some_iff.mp e1
      obtain ⟨l2, k2⟩ := List.getElem?_eq_some_iff.mp hr
      exact (List.getElem_inj (h₀ := l1) (h₁ := l2) nd).mp (k1.trans k2.symm)
    subst hi
    have lx : i < xs.length := by rw [← h.1]; exact (List.getElem?_eq_some_iff.mp hr).1
    rw [List.getElem?_set_self lx] at e2
    cases e2
    exact upd_same
  · have hi : j ≠ i := fun z => by subst z; rw [hr] at e1; cases e1; exact e rfl
    rw [List.getElem?_set_ne hi] at e2
    rw [upd_ne e]
    exact h.2 i q x e1 e2
theorem Tr2.set1 {H0 Hr H : Hp} {p f0 f1 : Addr} {r0 r1 : List Addr} {x0 x1 : List (List Int)} (t : Tr2 H0 Hr H p f0 f1 r0 r1 x0 x1) {j : Nat} {r : Addr} (hr : r1[j]? = some r) (y : List Int) : Tr2 H0 Hr (upd H r (.lst (y.map V.int))) p f0 f1 r0 r1 x0 (x1.set j y) := by
  obtain ⟨n1, n2, n3, n4, n5, n6, n7⟩ := Fj t.nd
  have hm := List.mem_of_getElem? hr
  obtain ⟨m1, m2, m3⟩ := n4 r (.inr hm)
  refine ⟨by rw [upd_ne (Ne.symm m1)]; exact t.hp, by rw [upd_ne (Ne.symm m2)]; exact t.h0, by rw [upd_ne (Ne.symm m3)]; exact t.h1, t.a0.same fun q hq => upd_ne fun z => by subst z; exact n5 _ hq hm, t.a1.set n7 hr y, t.nd, fun a ha => ?_⟩
  obtain ⟨q1, q2, o, q3⟩ := t.fr a ha
  by_cases e : a = r
  · subst e; exact ⟨q1, q2, _, upd_same⟩
  · exact ⟨q1, q2, o, by rw [upd_ne e]; exact q3⟩
theorem jp.dp {K : PySem.W.Frag} {H : Hp} : ∀ {rs : List Addr} {xs : List (List Int)}, jp H rs xs → DpAll K H (rs.map V.ref) (xs.map en)
  | [], [], _ => .nil
  | [], _ :: _, h => by cases h.1
  | _ :: _, [], h => by cases h.1
  | r :: rs, x :: xs, h => .cons (.lst (SqL.of (h.2 0 r x rfl rfl)) (mL x)) (jp.dp ⟨by simpa using h.1, fun i q y e1 e2 => h.2 (i + 1) q y (by simpa using e1) (by simpa using e2)⟩)
theorem jp.mns {H0 H : Hp} {rs : List Addr} {xs : List (List Int)} (h : jp H rs xs) (f : ∀ r ∈ rs, H0 r = none) : jp (mns H H0) rs xs := ⟨h.1, fun i r x e1 e2 => bu.mpr ⟨f r (List.mem_of_getElem? e1), h.2 i r x e1 e2⟩⟩
theorem Tr2.dp {K : PySem.W.Frag} {H0 Hr H : Hp} {p f0 f1 : Addr} {r0 r1 : List Addr} {x0 x1 : List (List Int)} (t : Tr2 H0 Hr H p f0 f1 r0 r1 x0 x1) : (aE K [x0, x1]).p (.ref p) (mns H H0) := by
  have f := fun a ha => (t.fr a ha).1
  refine .lst (SqL.of (bu.mpr ⟨f p (by simp), t.hp⟩)) (.cons (.lst (SqL.of (bu.mpr ⟨f f0 (by simp), t.h0⟩)) ?_) (.cons (.lst (SqL.of (bu.mpr ⟨f f1 (by simp), t.h1⟩)) ?_) .nil))
  · exact (t.a0.mns fun r hr => f r (by simp [hr])).dp
  · exact (t.a1.mns fun r hr => f r (by simp [hr])).dp
end Kj

namespace Kj
open PySem L2
section
variable {H0 : Hp} {ρ : List Slot} {K : PySem.W.Frag} {f fa fb : Bool} {ta tb te : TE}
end
def B8 : V → List V → Hp → VK → Prop := fun x vs H Q => ∃ (l : Addr) (xs : List V) (i : Int) (y : V), x = .ref l ∧ vs = [.int i, y] ∧ H l = some (.lst xs) ∧ xs.length < sizeLine ∧ 0 ≤ i ∧ i < 2 ^ 63 ∧ Q .non (upd H l (.lst (xs.take i.toNat ++ [y] ++ xs.drop i.toNat)))
abbrev yi (K : PySem.W.Frag) (te : TE) : TE := tCB (fun xs H Q => ∃ x n, xs = [x] ∧ LenV K x H n ∧ Q (.int n) H) (tCons te tNil)
abbrev rgT (K : PySem.W.Frag) (j : Int) : TE := tOp (rI0 fun i j => .int (i + j)) (tC (.int 1)) (tOp (rI (fun _ j => 0 < j) fun i j => .int (i % j)) (tOp (rIxL K) (tVar 1) (tC (.int j))) (tC (.int 3)))
abbrev emT (K : PySem.W.Frag) (j : Int) : TE := tLc (iRng1 (tCons (rgT K j) tNil)) (gName 3) tYes (tLst tNil) [3]
abbrev nj (a b : TE) : TE := tOp (rI (fun _ j => 0 < j) fun i j => .int (i % j)) a b
abbrev uU (a b : TE) : TE := tOp (rI CDiv fun i j => .int (i / j)) a b
abbrev cI (i : Int) : TE := tC (.int i)
abbrev Ci (K : PySem.W.Frag) : TE := tOp (rIxL K) (tVar 1) (tOp (rI0 fun i j => .int (i + j)) (cI 3) (tVar 4))
abbrev Ft (K : PySem.W.Frag) : TE := tOp (rIxL K) (tLst (tCons (uU (nj (tVar 5) (cI 5)) (cI 2)) (tCons (uU (nj (tVar 5) (cI 4)) (cI 2)) (tCons (tOp (rIxL K) (tLst (tCons (cI 0) (tCons (cI 1) (tCons (cI 0) (tCons (cI 0) (tCons (cI 2) (tCons (cI 0) (tCons (cI 0) tNil)))))))) (nj (tVar 5) (cI 7))) tNil)))) (nj (tOp (rIxL K) (tVar 1) (cI 2)) (cI 3))
abbrev E6 (K : PySem.W.Frag) : TE := tOp (rIxL K) (tOp (rIxL K) (tVar 2) (tVar 6)) (nj (uU (tVar 5) (cI 35)) (yi K (tOp (rIxL K) (tVar 2) (tVar 6))))
abbrev GK (K : PySem.W.Frag) : TE := tBM K "list" B8 (tVar 7) (tCons (nj (uU (tVar 5) (cI 105)) (tOp (rI0 fun i j => .int (i + j)) (yi K (tVar 7)) (cI 1))) (tCons (tVar 4) tNil))
abbrev FY (K : PySem.W.Frag) : TS := tSeq (tAsg (Ci K) (gName 5)) (tSeq (tAsg (Ft K) (gName 6)) (tSeq (tIfS (tTest (tOp (rI0 fun i j => .bl (decide (i < j))) (tVar 6) (cI 2)))
  (tSeq (tAsg (E6 K) (gName 7)) (tSeq (tIfS (tTest (tOp (rI0 fun i j => .bl (decide (i < j))) (yi K (tVar 7)) (cI 12))) (tSeq (tDrop (GK K)) tNext) tNext) tNext)) tNext) tNext))
abbrev Ga (K : PySem.W.Frag) : TS := tSeq (tAsg (tLst (tCons (emT K 0) (tCons (emT K 1) tNil))) (gName 2)) (tSeq (tFor (iRng1 (tCons (tVar 0) tNil)) (gName 4) (FY K)) (tSeq (tRet (tVar 2)) tNext))
theorem BK {α : Type} {xs : List α} {i : Nat} (h : i < xs.length) : atI xs (i : Int) = some xs[i] := by
  rw [qb (by omega) (by omega)]
  rfl
section
variable {H0 : Hp} {K : PySem.W.Frag}
abbrev If (K : PySem.W.Frag) (many : Int) (d : List Int) : List Slot := [.dat (aE K many), .dat (aE K d), .no, .no, .no, .no, .no, .no]
end
end Kj

namespace Kj
open PySem L2
theorem gt {i j : Int} (h : 0 < j) (h2 : j < 1073741824) : hW i j = some (i / j) := by unfold hW; rw [if_pos ⟨h, h2⟩]
theorem bY {i j : Int} (h : 0 < j) : bJ i j = some (i % j) := by unfold bJ; rw [if_pos h]
theorem iY {i j : Int} (h : -18446744073709551616 < i) (h2 : i < 18446744073709551616) : fE i j = some (i * j) := by unfold fE; exact if_pos (Or.inl ⟨by simpa using h, by simpa using h2⟩)
theorem aG {i j : Int} : cN i j = some (i + j) := Eq.trans rfl rfl
theorem aw {i j : Int} : jT i j = some (i - j) := Eq.trans rfl rfl
theorem az {i : Int} : jY i = some (-i) := Eq.trans rfl rfl
theorem aP {i j : Int} : ltI i j = some (decide (i < j)) := Eq.trans rfl rfl
theorem aL {i j : Int} : leI i j = some (decide (i ≤ j)) := Eq.trans rfl rfl
theorem aW {i j : Int} : gtI i j = some (decide (j < i)) := Eq.trans rfl rfl
theorem aQ {i j : Int} : geI i j = some (decide (j ≤ i)) := Eq.trans rfl rfl
theorem aM {α : Type} [DecidableEq α] {x y : α} : eqM x y = some (decide (x = y)) := Eq.trans rfl rfl
theorem aR {α : Type} [DecidableEq α] {x y : α} : neM x y = some (!decide (x = y)) := Eq.trans rfl rfl
theorem aV {α : Type} [DecidableEq α] {x : α} {xs : List α} : inM x xs = some (decide (x ∈ xs)) := Eq.trans rfl rfl
theorem ai {α : Type} [DecidableEq α] {x : α} {xs : List α} : jW x xs = some (!decide (x ∈ xs)) := Eq.trans rfl rfl
section
variable {α β γ δ ε ζ : Type} {a : α} {b : β} {c : γ} {d : δ} {e : ε}
theorem c1 {g : α → Option γ} : b1 g (some a) = g a := Eq.trans rfl rfl
theorem c2 {g : α → β → Option γ} : b2 g (some a) (some b) = g a b := Eq.trans rfl rfl
theorem c3 {g : α → β → γ → Option δ} : b3 g (some a) (some b) (some c) = g a b c := Eq.trans rfl rfl
theorem c4 {g : α → β → γ → δ → Option ε} : b4 g (some a) (some b) (some c) (some d) = g a b c d := Eq.trans rfl rfl
theorem c5 {g : α → β → γ → δ → ε → Option ζ} : b5 g (some a) (some b) (some c) (some d) (some e) = g a b c d e := Eq.trans rfl rfl
theorem bQ {g : α → β} : (some a).map g = some (g a) := Eq.trans rfl rfl
theorem br {g : α → Option β} : (some a).bind g = g a := Eq.trans rfl rfl
end
theorem cnx {S1 S R : Type} {s : S1} {k : S1 → Option (Fl S R)} : ah (some (.nx s)) k = k s := Eq.trans rfl rfl
theorem crt {S1 S R : Type} {r : R} {k : S1 → Option (Fl S R)} : ah (some (.rt r)) k = some (.rt r) := Eq.trans rfl rfl
theorem bR {S R : Type} {r : R} : ba (some (.rt r) : Option (Fl S R)) = some r := Eq.trans rfl rfl
theorem bq {S : Type} {r : S} : jr (some (.nx r : Fl S Unit)) = some () := Eq.trans rfl rfl
theorem bh {S : Type} {r : Unit} : jr (some (.rt r : Fl S Unit)) = some () := Eq.trans rfl rfl
theorem bp {S R : Type} {r : S} : AJ (some (.nx r : Fl S (Option R))) = some none := Eq.trans rfl rfl
theorem bn {S R : Type} {r : Option R} : AJ (some (.rt r : Fl S (Option R))) = some r := Eq.trans rfl rfl
theorem bS {S1 S R : Type} {e : Exn} {k : S1 → Option (Fl S R)} : ah (some (.ex e)) k = some (.ex e) := Eq.trans rfl rfl
theorem bg {S R : Type} {r : R} : ig (some (.rt r) : Option (Fl S R)) = some (.ok r) := Eq.trans rfl rfl
theorem a6 {S R : Type} {e : Exn} : ig (some (.ex e) : Option (Fl S R)) = some (.ex e) := Eq.trans rfl rfl
theorem aZ {S : Type} {r : S} : eY (some (.nx r : Fl S Unit)) = some (.ok ()) := Eq.trans rfl rfl
theorem aY {S : Type} {r : Unit} : eY (some (.rt r : Fl S Unit)) = some (.ok ()) := Eq.trans rfl rfl
theorem aX {S : Type} {e : Exn} : eY (some (.ex e : Fl S Unit)) = some (.ex e) := Eq.trans rfl rfl
theorem ao : ce = some none := Eq.trans rfl rfl
theorem aN {a b : Bool} : fG (some a) (some b) = some (a && b) := by cases a <;> rfl
theorem bf {a b : Bool} : orM (some a) (some b) = some (a || b) := by cases a <;> rfl
theorem ay {a : Bool} : dC (some a) = some (!a) := Eq.trans rfl rfl
theorem aC {α : Type} {c : Bool} {ma mb : Option α} : a9 (some c) ma mb = if c = true then ma else mb := Eq.trans rfl rfl
theorem av {α : Type} {xs : List α} : b7 xs = some (xs.length : Int) := Eq.trans rfl rfl
theorem au {α : Type} {xs : List α} {lo hi : Option Int} : cM xs lo hi = some (iD xs lo hi) := Eq.trans rfl rfl
theorem ap {α : Type} {xs : List α} : jh xs = some xs := Eq.trans rfl rfl
theorem aF {bs : List Bool} : nH bs = some (bs.all id) := Eq.trans rfl rfl
theorem am {i : Int} : bN (some i) = some (some i) := Eq.trans rfl rfl
theorem ax {α : Type} {xs : List α} : E7 xs = some xs.reverse := Eq.trans rfl rfl
theorem al {α : Type} {x : α} {xs : List α} : ar x xs = some (x :: xs) := Eq.trans rfl rfl
theorem aA {i j : Int} : ya i j = some (if j < i then j else i) := Eq.trans rfl rfl
theorem aB {i j : Int} : Am i j = some (if j > i then j else i) := Eq.trans rfl rfl
theorem aU {α β : Type} {a : α} {b : β} : mk2 a b = some ⟨a, b⟩ := Eq.trans rfl rfl
theorem v_ {α : Type} {g g' : α → α → Option Bool} {a b c : α} {k k' : Bool} (h : g a b = some k) (h' : g' b c = some k') : chM g g' (some a) (some b) (some c) = some (k && k') := by
  show (g a b).bind _ = _
  rw [h]
  cases k
  · rfl
  · exact h'
theorem cy {α : Type} {xs : List α} (h : xs.length ≤ 1000) : aK xs = some xs := by unfold aK; rw [if_pos h]
theorem hX {α : Type} {xs ys : List α} (h : xs.length + ys.length ≤ 100000) : dw xs ys = some (xs ++ ys) := by unfold dw; rw [if_pos h]
theorem mV {α β : Type} {xs : List α} {x : α} {k : List α → Option β} (h : xs.length < 100000) : kU xs x k = k (xs ++ [x]) := by unfold kU; rw [if_pos h]
theorem fB {j : Int} (h : -4611686018427387904 ≤ j) (h2 : j < 4611686018427387904) : rngM j = some ((List.range j.toNat).map fun n : Nat => (n : Int)) := by unfold rngM; rw [if_pos ⟨by simpa using h, by simpa using h2⟩]
theorem xG {l j : Int} (h : 0 ≤ l) (h1 : l < 4611686018427387904) (h2 : 0 ≤ j) (h3 : j < 4611686018427387904) : rng2M l j = some ((List.range (j - l).toNat).map fun n : Nat => l + (n : Int)) := by unfold rng2M; rw [if_pos ⟨by omega, by simpa using h1, by omega, by simpa using h3⟩]
theorem jx {α : Type} {xs : List α} {i : Int} {z : α} (h0 : 0 ≤ i) (h1 : i < xs.length) : atI xs i = some (xs.getD i.toNat z) := by
  rw [qb h0 h1, List.getD_eq_getElem?_getD, List.getElem?_eq_getElem (by omega)]
  rfl
theorem vL {α S R : Type} {b : α → S → Option (Fl S R)} (P : Nat → S → Prop) : ∀ (xs : List α) (n : Nat) (s : S), P n s → (∀ i x s, xs[i]? = some x → P (n + i) s → ∃ s', b x s = some (.nx s') ∧ P (n + i + 1) s') → ∃ s', cD b xs s = some (.nx s') ∧ P (n + xs.length) s'
  | [], n, s, h, _ => ⟨s, rfl, h⟩
  | x :: xs, n, s, h, hb => by
    obtain ⟨s1, e1, h1⟩ := hb 0 x s (by simp) h
    obtain ⟨s2, e2, h2⟩ := vL P xs (n + 1) s1 h1 fun i y t hy ht => by
      have := hb (i + 1) y t (by simpa using hy) (by rw [show n + (i + 1) = n + 1 + i by omega]; exact ht)
      rw [show n + 1 + i + 1 = n + (i + 1) + 1 by omega]; exact this
    refine ⟨s2, ?_, by rw [List.length_cons, show n + (xs.length + 1) = n + 1 + xs.length by omega]; exact h2⟩
    show ah (b x s) _ = _
    rw [e1]; exact e2
theorem yB {α S R : Type} {b : α → S → Option (Fl S R)} {xs : List α} {s : S} (P : Nat → S → Prop) (h : P 0 s) (hb : ∀ i x s, xs[i]? = some x → P i s → ∃ s', b x s = some (.nx s') ∧ P (i + 1) s') : ∃ s', cD b xs s = some (.nx s') ∧ P xs.length s' := by
  obtain ⟨s', e, q⟩ := vL P xs 0 s h fun i x s hx hp => by
    rw [Nat.zero_add] at hp ⊢; exact hb i x s hx hp
  exact ⟨s', e, by rw [Nat.zero_add] at q; exact q⟩
theorem sF {S R : Type} {c : S → Option Bool} {b : S → Option (Fl S R)} (P : S → Prop) (Q : S → Prop) (μ : S → Nat) (hs : ∀ s, P s → (c s = some false ∧ Q s) ∨ (c s = some true ∧ ∃ s', b s = some (.nx s') ∧ P s' ∧ μ s' < μ s)) :
    ∀ (n : Nat) (s : S), P s → μ s < n → ∃ s', gZ c b n s = some (.nx s') ∧ Q s'
  | 0, s, _, h => nomatch h
  | n + 1, s, hp, h => by
    rcases hs s hp with ⟨e, q⟩ | ⟨e, s', e2, p, l⟩
    · exact ⟨s, by show (c s).bind _ = _; rw [e]; rfl, q⟩
    · obtain ⟨s2, e3, q⟩ := sF P Q μ hs n s' p (by omega)
      refine ⟨s2, ?_, q⟩
      show (c s).bind _ = _
      rw [e]
      show ah (b s) (fun s' => gZ c b n s') = _
      rw [e2]
      exact e3
theorem oB {α S S' R : Type} {b : α → S → Option (Fl S R)} {xs : List α} {s : S} {k : S → Option (Fl S' R)} {Q : R → Prop} (P : Nat → S → Prop) (h : P 0 s) (hb : ∀ i x s, xs[i]? = some x → P i s → ∃ s', b x s = some (.nx s') ∧ P (i + 1) s') (hk : ∀ s, P xs.length s → ∃ d, ba (k s) = some d ∧ Q d) : ∃ d, ba (ah (cD b xs s) k) = some d ∧ Q d := by
  obtain ⟨s', e, h'⟩ := yB P h hb
  rw [e]; exact hk s' h'
theorem C_ {α S S' R : Type} {b : α → S → Option (Fl S R)} {xs : List α} {s : S} {k : S → Option (Fl S' R)} {Q : S' → Prop} (P : Nat → S → Prop) (h : P 0 s) (hb : ∀ i x s, xs[i]? = some x → P i s → ∃ s', b x s = some (.nx s') ∧ P (i + 1) s') (hk : ∀ s, P xs.length s → ∃ d, k s = some (.nx d) ∧ Q d) : ∃ d, ah (cD b xs s) k = some (.nx d) ∧ Q d := by
  obtain ⟨s', e, h'⟩ := yB P h hb
  rw [e]; exact hk s' h'
theorem Ag {S S' R : Type} {m : Option (Fl S R)} {k : S → Option (Fl S' R)} {Q : S' → Prop} (P : S → Prop) (h : ∃ s, m = some (.nx s) ∧ P s) (hk : ∀ s, P s → ∃ d, k s = some (.nx d) ∧ Q d) : ∃ d, ah m k = some (.nx d) ∧ Q d := by
  obtain ⟨s', e, h'⟩ := h
  rw [e]; exact hk s' h'
theorem yD {S S' R : Type} {m : Option (Fl S R)} {k : S → Option (Fl S' R)} {Q : R → Prop} (P : S → Prop) (h : ∃ s, m = some (.nx s) ∧ P s) (hk : ∀ s, P s → ∃ d, ba (k s) = some d ∧ Q d) : ∃ d, ba (ah m k) = some d ∧ Q d := by
  obtain ⟨s', e, h'⟩ := h
  rw [e]; exact hk s' h'
theorem we {S S' R : Type} {c : S → Option Bool} {b : S → Option (Fl S R)} {n : Nat} {s : S} {k : S → Option (Fl S' R)} {Q' : R → Prop} (P : S → Prop) (Q : S → Prop) (μ : S → Nat) (h0 : P s) (hn : μ s < n) (hs : ∀ s, P s → (c s = some false ∧ Q s) ∨ (c s = some true ∧ ∃ s', b s = some (.nx s') ∧ P s' ∧ μ s' < μ s))
    (hk : ∀ s, Q s → ∃ d, ba (k s) = some d ∧ Q' d) : ∃ d, ba (ah (gZ c b n s) k) = some d ∧ Q' d := by
  obtain ⟨s', e, h'⟩ := sF P Q μ hs n s h0 hn
  rw [e]; exact hk s' h'
theorem yA : fuelN = 100000 := by unfold fuelN; rfl
theorem yk {α β : Type} {mt : α → Option Bool} {me : α → Option β} {p : α → Bool} {h : α → β} : ∀ {xs : List α}, (∀ x ∈ xs, mt x = some (p x)) → (∀ x ∈ xs, p x = true → me x = some (h x)) → lcF (fun x => lcE (mt x) (me x)) xs = some ((xs.filter p).map h)
  | [], _, _ => rfl
  | x :: xs, h1, h2 => by
    show (lcE (mt x) (me x)).bind _ = _
    have ih := yk (xs := xs) (fun y hy => h1 y (by simp [hy])) (fun y hy => h2 y (by simp [hy]))
    have e1 : mt x = some (p x) := h1 x (by simp)
    rw [ih]
    unfold lcE
    rw [e1]
    cases hp : p x with
    | true =>
      show ((me x).map some).bind _ = _
      rw [h2 x (by simp) hp, List.filter_cons_of_pos hp]
      rfl
    | false =>
      show (some none : Option (Option β)).bind _ = _
      rw [List.filter_cons_of_neg (by simp [hp])]
      rfl
theorem B7 {α β : Type} {mt : α → Option Bool} {me : α → Option β} {xs : List α} (p : α → Bool) (h : α → β) (hl : xs.length ≤ 100000) (h1 : ∀ x ∈ xs, mt x = some (p x)) (h2 : ∀ x ∈ xs, p x = true → me x = some (h x)) : lcM (fun x => lcE (mt x) (me x)) xs = some ((xs.filter p).map h) := by
  unfold lcM; rw [if_pos hl]; exact yk h1 h2
theorem gJ {α β : Type} {me : α → Option β} {xs : List α} (h : α → β) (hl : xs.length ≤ 100000) (h2 : ∀ x ∈ xs, me x = some (h x)) : lcM (fun x => lcE (some true) (me x)) xs = some (xs.map h) := by
  have := B7 (mt := fun _ => some true) (me := me) (xs := xs) (fun _ => true) h hl (fun _ _ => rfl) (fun x hx _ => h2 x hx)
  rw [this, List.filter_eq_self.mpr fun _ _ => rfl]
theorem nk {α : Type} {mt : α → Option Bool} {xs : List α} (p : α → Bool) (hl : xs.length ≤ 100000) (h1 : ∀ x ∈ xs, mt x = some (p x)) : lcM (fun x => lcE (mt x) (some x)) xs = some (xs.filter p) := by
  have := B7 (mt := mt) (me := fun x => some x) (xs := xs) p id hl h1 (fun x hx _ => rfl)
  rw [this]; simp
theorem vG {α β : Type} {me : α → Option β} {P : β → Prop} {xs : List α} (hl : xs.length ≤ 100000) (h : ∀ x ∈ xs, ∃ y, me x = some y ∧ P y) : ∃ ys, lcM (fun x => lcE (some true) (me x)) xs = some ys ∧ ys.length = xs.length ∧ ∀ y ∈ ys, P y := by
  unfold lcM
  rw [if_pos hl]
  clear hl
  induction xs with
  | nil => exact ⟨[], rfl, rfl, fun y hy => by cases hy⟩
  | cons x xs ih =>
    obtain ⟨y, e, hy⟩ := h x (by simp)
    obtain ⟨ys, e2, l, hys⟩ := ih fun z hz => h z (by simp [hz])
    refine ⟨y :: ys, ?_, by simp [l], fun z hz => ?_⟩
    · show (lcE (some true) (me x)).bind _ = _
      rw [e, e2]; rfl
    · rcases List.mem_cons.mp hz with h | h
      · subst h; exact hy
      · exact hys z h
def Nm (m : Nat) (d : List Int) : Prop := m ≤ d.length ∧ ∀ x ∈ d, 0 ≤ x ∧ x < 10000
def gI (d : List Int) (i : Nat) : Int := d.getD i 0
theorem Nm.mono {m n : Nat} {d : List Int} (h : Nm m d) (hn : n ≤ m) : Nm n d := ⟨Nat.le_trans hn h.1, h.2⟩
theorem Nm.drop {m : Nat} {d : List Int} (h : Nm m d) (n : Nat) : Nm (m - n) (d.drop n) := ⟨by rw [List.length_drop]; have := h.1; omega, fun x hx => h.2 x (List.mem_of_mem_drop hx)⟩
theorem Nm.take {m : Nat} {d : List Int} (h : Nm m d) (n : Nat) (hn : n ≤ m) : Nm n (d.take n) := ⟨by rw [List.length_take]; have := h.1; omega, fun x hx => h.2 x (List.mem_of_mem_take hx)⟩
theorem ph {m : Nat} {d : List Int} (h : Nm m d) (i : Nat) : 0 ≤ gI d i ∧ gI d i < 10000 := by
  unfold gI
  rw [List.getD_eq_getElem?_getD]
  cases e : d[i]? with
  | none => exact ⟨Int.le_refl _, by decide⟩
  | some x => exact h.2 x (List.mem_of_getElem? e)
theorem et {m : Nat} {d : List Int} (h : Nm m d) {i : Int} (h0 : 0 ≤ i) (h1 : i < m) : atI d i = some (gI d i.toNat) := jx h0 (by have := h.1; omega)
end Kj

namespace Kj
open PySem L2
theorem CT (m n : Nat) : (if (n : Int) < (m : Int) then (n : Int) else (m : Int)) = ((min m n : Nat) : Int) := by
  split <;> omega
theorem t_ (a b : List Str) : dY a b = some (alk a b) := by
  unfold dY alk
  simp only [c1, c2, c3, c4, c5, bQ, br, cnx, crt, bR, bq, bh, bp, bn, bS, bg, a6, aZ, aY, aX, aG, aw, az, aP, aL, aW, aQ, aM, aR, aV, ai, aN, bf, ay, aC, av, au, ap, aF, am, ao, ax, al, aA, aB, aU, CT]
  rw [e8 _ (by omega), e8 _ (by omega)]
  simp
theorem BF {b : List (List Str)} (h : b.length ≤ 100000) : gc b = some b := by
  unfold gc
  simp only [c1, c2, c3, c4, c5, bQ, br, cnx, crt, bR, bq, bh, bp, bn, bS, bg, a6, aZ, aY, aX, aG, aw, az, aP, aL, aW, aQ, aM, aR, aV, ai, aN, bf, ay, aC, av, au, ap, aF, am, ao, ax, al, aA, aB, aU]
  rw [gJ (fun x => x) h fun x _ => rfl]
  simp only [c1, c2, c3, c4, c5, bQ, br, cnx, crt, bR, bq, bh, bp, bn, bS, bg, a6, aZ, aY, aX, aG, aw, az, aP, aL, aW, aQ, aM, aR, aV, ai, aN, bf, ay, aC, av, au, ap, aF, am, ao, ax, al, aA, aB, aU, List.map_id']
theorem w6 (a b : List Str) : eK a b = some (decide (b.take a.length = a)) := by
  unfold eK
  simp only [c1, c2, c3, c4, c5, bQ, br, cnx, crt, bR, bq, bh, bp, bn, bS, bg, a6, aZ, aY, aX, aG, aw, az, aP, aL, aW, aQ, aM, aR, aV, ai, aN, bf, ay, aC, av, au, ap, aF, am, ao, ax, al, aA, aB, aU]
  rw [e8 _ (by omega)]
  simp
theorem oA (c d : Nat) : leS ⟨#[c]⟩ ⟨#[d]⟩ = some (decide (c ≤ d)) := by
  unfold leS
  congr 1
  rw [Bool.eq_iff_iff]
  simp [List.cons_lt_cons_iff]
end Kj

namespace Kj
open PySem L2
abbrev BL := List (List Str)
def vAt (b : BL) (n : Int) : List Str := b.getD n.toNat []
def InB (b : BL) (n : Int) : Prop := 0 ≤ n ∧ n < b.length
theorem vh {b : BL} {n : Int} (h : InB b n) : vAt b n ∈ b := g_ (by have := h.1; have := h.2; omega)
theorem wa {b : BL} {n : Int} (h : InB b n) : atI b n = some (vAt b n) := jx h.1 h.2
theorem Ao (b : BookT) : dh b = some (b.lines.length : Int) := by
  unfold dh
  simp only [c1, c2, c3, c4, c5, bQ, br, cnx, crt, bR, bq, bh, bp, bn, bS, bg, a6, aZ, aY, aX, aG, aw, az, aP, aL, aW, aQ, aM, aR, aV, ai, aN, bf, ay, aC, av, au, ap, aF, am, ao, ax, al, aA, aB, aU]
theorem FW {b : BookT} {n : Int} (h : InB b.lines n) : cA b n = some () := by
  unfold cA
  simp only [c1, c2, c3, c4, c5, bQ, br, cnx, crt, bR, bq, bh, bp, bn, bS, bg, a6, aZ, aY, aX, aG, aw, az, aP, aL, aW, aQ, aM, aR, aV, ai, aN, bf, ay, aC, av, au, ap, aF, am, ao, ax, al, aA, aB, aU, Ao]
  rw [v_ (k := true) (k' := true) (by rw [aL]; exact congrArg some (decide_eq_true h.1)) (by rw [aP]; exact congrArg some (decide_eq_true h.2))]
  rfl
theorem xk {b : BookT} {n : Int} (h : InB b.lines n) : bM b n = some (vAt b.lines n) := by
  unfold bM
  simp only [c1, c2, c3, c4, c5, bQ, br, cnx, crt, bR, bq, bh, bp, bn, bS, bg, a6, aZ, aY, aX, aG, aw, az, aP, aL, aW, aQ, aM, aR, aV, ai, aN, bf, ay, aC, av, au, ap, aF, am, ao, ax, al, aA, aB, aU, FW h, wa h]
theorem sO : ∀ u : List Int, (lG u).length ≤ u.length
  | [] => Nat.le_refl _
  | k :: u => by
    have ih := sO u
    have hi : ∀ (k : Int) (xs : List Int), (pe k xs).length ≤ xs.length + 1 := by
      intro k xs
      induction xs with
      | nil => simp [pe]
      | cons x xs ih =>
        unfold pe
        split
        · simp
        · split
          · simp
          · simp only [List.length_cons]; omega
    have := hi k (lG u)
    simp only [lG, List.length_cons]
    omega
def uq (b : BL) (u : List Int) (h : List Str) : List Int := (lG u).filter fun n => decide ((vAt b n).take h.length = h)
theorem yc {b : BL} {u : List Int} {h : List Str} {n : Int} : n ∈ uq b u h ↔ n ∈ u ∧ (vAt b n).take h.length = h := by
  unfold uq
  rw [List.mem_filter, tz, decide_eq_true_iff]
def shr : List Str → List Str → Nat
  | x :: xs, y :: ys => if x = y then shr xs ys + 1 else 0
  | _, _ => 0
def Gq (b : BL) (v : Int) (sz : Int) (n : Int) : Bool := (!decide (n = v)) && decide (sz ≤ (shr (vAt b v) (vAt b n) : Int))
def riv (b : BL) (u : List Int) (v sz : Int) : List Int := (lG u).filter (Gq b v sz)
def dsz (b : BL) (u : List Int) (v : Int) : Nat := (u.map fun n => if n = v then 0 else shr (vAt b v) (vAt b n) + 1).foldr max 0
def dec (b : BL) (u : List Int) (v : Int) : List Str := (vAt b v).take (dsz b u v)
end Kj

namespace Kj
open PySem L2
def NmR (n : Nat) (row : List Int) : Prop := row.length ≤ n ∧ ∀ x ∈ row, 0 ≤ x ∧ x < 10000
theorem NmR.app {n : Nat} {row : List Int} (h : NmR n row) {x : Int} (h0 : 0 ≤ x) (h1 : x < 10000) : NmR (n + 1) (row ++ [x]) := ⟨by simp; exact h.1, fun y hy => by
  rcases List.mem_append.mp hy with z | z
  · exact h.2 y z
  · simp at z; subst z; exact ⟨h0, h1⟩⟩
theorem NmR.mono {n m : Nat} {row : List Int} (h : NmR n row) (hm : n ≤ m) : NmR m row := ⟨Nat.le_trans h.1 hm, h.2⟩
theorem z7 : powI 10 18 = some 1000000000000000000 := by unfold powI; rfl
theorem un {ns : List Int} {m : Nat} (hn : ns.length ≤ 63) (hm : m ≤ 2000) : ∃ d, fL ns (m : Int) = some d ∧ Nm m d := by
  unfold fL
  simp only [c1, c2, c3, c4, c5, bQ, br, cnx, crt, bR, bq, bh, bp, bn, bS, bg, a6, aZ, aY, aX, aG, aw, az, aP, aL, aW, aQ, aM, aR, aV, ai, aN, bf, ay, aC, av, au, ap, aF, am, ao, ax, al, aA, aB, aU, z7]
  rw [fB (by omega) (by omega), e8 _ (by omega)]
  simp only [c1, c2, c3, c4, c5, bQ, br, cnx, crt, bR, bq, bh, bp, bn, bS, bg, a6, aZ, aY, aX, aG, aw, az, aP, aL, aW, aQ, aM, aR, aV, ai, aN, bf, ay, aC, av, au, ap, aF, am, ao, ax, al, aA, aB, aU]
  refine oB (fun i s => NmR (61 * i) s.1 ∧ 0 ≤ s.2 ∧ s.2 < 2147483648) ⟨⟨by simp, by simp⟩, by decide, by decide⟩ ?_ ?_
  · rintro i x ⟨row, seed⟩ hx ⟨hr, hs0, hs1⟩
    have hi : i < 63 := by
      have := (List.getElem?_eq_some_iff.mp hx).1
      rw [List.length_take] at this
      omega
    dsimp only at hr hs0 hs1 ⊢
    rw [iY (by omega) (by omega), bY (show (0 : Int) < 999983 by omega)]
    simp only [c1, c2, c3, c4, c5, bQ, br, cnx, crt, bR, bq, bh, bp, bn, bS, bg, a6, aZ, aY, aX, aG, aw, az, aP, aL, aW, aQ, aM, aR, aV, ai, aN, bf, ay, aC, av, au, ap, aF, am, ao, ax, al, aA, aB, aU]
    rw [bY (show (0 : Int) < 2147483563 by omega)]
    simp only [c1, c2, c3, c4, c5, bQ, br, cnx, crt, bR, bq, bh, bp, bn, bS, bg, a6, aZ, aY, aX, aG, aw, az, aP, aL, aW, aQ, aM, aR, aV, ai, aN, bf, ay, aC, av, au, ap, aF, am, ao, ax, al, aA, aB, aU]
    refine Ag (fun r => NmR (61 * i + 1) r) ?_ fun row1 hr1 => ?_
    · split
      · rw [bY (by omega)]
        simp only [c1, c2, c3, c4, c5, bQ, br, cnx, crt, bR, bq, bh, bp, bn, bS, bg, a6, aZ, aY, aX, aG, aw, az, aP, aL, aW, aQ, aM, aR, aV, ai, aN, bf, ay, aC, av, au, ap, aF, am, ao, ax, al, aA, aB, aU]
        rw [mV (by have := hr.1; omega)]
        exact ⟨_, rfl, hr.app (Int.emod_nonneg _ (by omega)) (by have := Int.emod_lt_of_pos x (show (0 : Int) < 9967 by omega); omega)⟩
      · exact ⟨_, rfl, hr.mono (by omega)⟩
    refine C_ (fun j s => NmR (61 * i + 1 + j) s.1) hr1 ?_ ?_
    · rintro j y ⟨row, rest⟩ hy hs
      have hj : j < 60 := by
        have := (List.getElem?_eq_some_iff.mp hy).1
        simp at this
        omega
      dsimp only at hs ⊢
      by_cases hp : 0 < rest
      · rw [decide_eq_true hp, if_pos rfl, bY (by omega)]
        simp only [c1, c2, c3, c4, c5, bQ, br, cnx, crt, bR, bq, bh, bp, bn, bS, bg, a6, aZ, aY, aX, aG, aw, az, aP, aL, aW, aQ, aM, aR, aV, ai, aN, bf, ay, aC, av, au, ap, aF, am, ao, ax, al, aA, aB, aU]
        rw [mV (by have := hs.1; omega), gt (by omega) (by omega)]
        simp only [c1, c2, c3, c4, c5, bQ, br, cnx, crt, bR, bq, bh, bp, bn, bS, bg, a6, aZ, aY, aX, aG, aw, az, aP, aL, aW, aQ, aM, aR, aV, ai, aN, bf, ay, aC, av, au, ap, aF, am, ao, ax, al, aA, aB, aU]
        exact ⟨_, rfl, hs.app (Int.emod_nonneg _ (by omega)) (by have := Int.emod_lt_of_pos rest (show (0 : Int) < 1013 by omega); omega)⟩
      · rw [decide_eq_false hp, if_neg Bool.false_ne_true]
        exact ⟨_, rfl, hs.mono (by omega)⟩
    · rintro ⟨row2, rest2⟩ hr2
      refine ⟨_, rfl, hr2.mono ?_, Int.emod_nonneg _ (by omega), ?_⟩
      · simp; omega
      · have := Int.emod_lt_of_pos (seed * 40014 + x % 999983 + 17) (show (0 : Int) < 2147483563 by omega)
        dsimp only; omega
  · rintro ⟨row, seed⟩ h1
    have hl : row.length ≤ 61 * 63 := by
      have := h1.1.1
      have : (ns.take (63 : Int).toNat).length ≤ 63 := by rw [List.length_take]; omega
      dsimp only at *
      omega
    refine we (fun s => NmR 10000 s.1 ∧ 0 ≤ s.2 ∧ s.2 < 2147483648) (fun s => NmR 10000 s.1 ∧ m ≤ s.1.length) (fun s => m - s.1.length) ⟨⟨by dsimp only; omega, h1.1.2⟩, h1.2⟩ (by rw [yA]; dsimp only; omega) ?_ ?_
    · rintro ⟨row, seed⟩ ⟨hr, hs0, hs1⟩
      dsimp only at hr hs0 hs1 ⊢
      by_cases hp : (row.length : Int) < (m : Int)
      · refine .inr ⟨by rw [decide_eq_true hp], ?_⟩
        rw [iY (i := seed) (by omega) (by omega), iY (i := 52774) (by omega) (by omega), iY (i := 11) (by omega) (by omega)]
        simp only [c1, c2, c3, c4, c5, bQ, br, cnx, crt, bR, bq, bh, bp, bn, bS, bg, a6, aZ, aY, aX, aG, aw, az, aP, aL, aW, aQ, aM, aR, aV, ai, aN, bf, ay, aC, av, au, ap, aF, am, ao, ax, al, aA, aB, aU]
        rw [bY (show (0 : Int) < 2147483629 by omega)]
        simp only [c1, c2, c3, c4, c5, bQ, br, cnx, crt, bR, bq, bh, bp, bn, bS, bg, a6, aZ, aY, aX, aG, aw, az, aP, aL, aW, aQ, aM, aR, aV, ai, aN, bf, ay, aC, av, au, ap, aF, am, ao, ax, al, aA, aB, aU]
        rw [gt (by omega) (by omega)]
        simp only [c1, c2, c3, c4, c5, bQ, br, cnx, crt, bR, bq, bh, bp, bn, bS, bg, a6, aZ, aY, aX, aG, aw, az, aP, aL, aW, aQ, aM, aR, aV, ai, aN, bf, ay, aC, av, au, ap, aF, am, ao, ax, al, aA, aB, aU]
        rw [bY (show (0 : Int) < 9967 by omega)]
        simp only [c1, c2, c3, c4, c5, bQ, br, cnx, crt, bR, bq, bh, bp, bn, bS, bg, a6, aZ, aY, aX, aG, aw, az, aP, aL, aW, aQ, aM, aR, aV, ai, aN, bf, ay, aC, av, au, ap, aF, am, ao, ax, al, aA, aB, aU]
        rw [mV (by omega)]
        generalize hsd : (seed * seed + 52774 * seed + 11 * (row.length : Int) + 3) % 2147483629 = sd
        have d0 : 0 ≤ sd := by rw [← hsd]; exact Int.emod_nonneg _ (by omega)
        have d1 : sd < 2147483629 := by rw [← hsd]; exact Int.emod_lt_of_pos _ (by omega)
        refine ⟨_, rfl, ⟨(((show NmR row.length row from ⟨Nat.le_refl _, hr.2⟩).app (Int.emod_nonneg _ (by omega)) (by have := Int.emod_lt_of_pos (sd / 1019) (show (0 : Int) < 9967 by omega); omega)).mono (by omega)), d0, by omega⟩, ?_⟩
        simp
        omega
      · exact .inl ⟨by rw [decide_eq_false hp], hr, by omega⟩
    · rintro ⟨row2, seed2⟩ h2
      simp only [c1, c2, c3, c4, c5, bQ, br, cnx, crt, bR, bq, bh, bp, bn, bS, bg, a6, aZ, aY, aX, aG, aw, az, aP, aL, aW, aQ, aM, aR, aV, ai, aN, bf, ay, aC, av, au, ap, aF, am, ao, ax, al, aA, aB, aU]
      rw [e8 _ (by omega)]
      refine ⟨_, rfl, ?_, fun x hx => h2.1.2 x (List.mem_of_mem_take hx)⟩
      rw [List.length_take]
      have := h2.2
      dsimp only at *
      omega
end Kj

namespace Kj
open PySem L2
theorem yP (n : Int) : 0 ≤ n % 3 ∧ n % 3 < 3 := ⟨Int.emod_nonneg _ (by omega), Int.emod_lt_of_pos _ (by omega)⟩
theorem pc {i : Int} (h0 : 0 ≤ i) (h1 : i < 26) : ∃ c : Nat, ixS ("abcdefghijklmnopqrstuvwxyz" : Str) i = some ⟨#[c]⟩ ∧ 97 ≤ c ∧ c ≤ 122 := by
  have e : ("abcdefghijklmnopqrstuvwxyz" : Str).cps.toList = (List.range 26).map (· + 97) := by decide
  unfold ixS
  rw [if_pos (by rw [sizeLine_eq]; decide), e, BM h0 (by simpa using h1)]
  refine ⟨_, rfl, ?_, ?_⟩
  · simp
  · simp; omega
theorem xF {n : Int} (h0 : 0 ≤ n) (h1 : n < 10000) : ∃ z, f_ n = some z ∧ Syl z := by
  unfold f_
  have h3 := yP n
  simp only [c1, c2, c3, c4, c5, bQ, br, cnx, crt, bR, bq, bh, bp, bn, bS, bg, a6, aZ, aY, aX, aG, aw, az, aP, aL, aW, aQ, aM, aR, aV, ai, aN, bf, ay, aC, av, au, ap, aF, am, ao, ax, al, aA, aB, aU, gt (show (0 : Int) < 3 by omega) (by omega), gt (show (0 : Int) < 79 by omega) (by omega), bY (show (0 : Int) < 3 by omega)]
  rw [fB (by omega) (by omega)]
  simp only [c1, c2, c3, c4, c5, bQ, br, cnx, crt, bR, bq, bh, bp, bn, bS, bg, a6, aZ, aY, aX, aG, aw, az, aP, aL, aW, aQ, aM, aR, aV, ai, aN, bf, ay, aC, av, au, ap, aF, am, ao, ax, al, aA, aB, aU]
  obtain ⟨ys, e, hl, hy⟩ := vG (me := fun x1 : Int => b2 ixS (some ("abcdefghijklmnopqrstuvwxyz" : Str)) (b2 bJ (b2 cN (some (n / 3)) (fE x1 (n / 79))) (some (26 : Int)))) (P := fun z : Str => ∃ c : Nat, z = ⟨#[c]⟩ ∧ 97 ≤ c ∧ c ≤ 122) (xs := (List.range (1 + n % 3).toNat).map fun n : Nat => (n : Int)) (by simp; omega) fun x hx => by
    obtain ⟨k, hk, rfl⟩ := List.mem_map.mp hx
    have := List.mem_range.mp hk
    rw [iY (by omega) (by omega)]
    simp only [c1, c2, c3, c4, c5, bQ, br, cnx, crt, bR, bq, bh, bp, bn, bS, bg, a6, aZ, aY, aX, aG, aw, az, aP, aL, aW, aQ, aM, aR, aV, ai, aN, bf, ay, aC, av, au, ap, aF, am, ao, ax, al, aA, aB, aU]
    rw [bY (by omega)]
    simp only [c1, c2, c3, c4, c5, bQ, br, cnx, crt, bR, bq, bh, bp, bn, bS, bg, a6, aZ, aY, aX, aG, aw, az, aP, aL, aW, aQ, aM, aR, aV, ai, aN, bf, ay, aC, av, au, ap, aF, am, ao, ax, al, aA, aB, aU]
    obtain ⟨c, e, hc⟩ := pc (i := (n / 3 + (k : Int) * (n / 79)) % 26) (Int.emod_nonneg _ (by omega)) (Int.emod_lt_of_pos _ (by omega))
    exact ⟨_, e, c, rfl, hc⟩
  rw [e]
  have hcs : ∃ cs : List Nat, ys = cs.map (fun c => (⟨#[c]⟩ : Str)) ∧ ∀ c ∈ cs, 97 ≤ c ∧ c ≤ 122 := by
    clear e hl
    induction ys with
    | nil => exact ⟨[], rfl, fun c hc => by cases hc⟩
    | cons y ys ih =>
      obtain ⟨c, e, hc⟩ := hy y (by simp)
      obtain ⟨cs, e2, hcs⟩ := ih fun z hz => hy z (by simp [hz])
      refine ⟨c :: cs, by rw [List.map_cons, ← e2, e], fun d hd => ?_⟩
      rcases List.mem_cons.mp hd with z | z
      · subst z; exact hc
      · exact hcs d z
  obtain ⟨cs, rfl, hcs⟩ := hcs
  rw [List.length_map, List.length_map, List.length_range] at hl
  simp only [c1, c2, c3, c4, c5, bQ, br, cnx, crt, bR, bq, bh, bp, bn, bS, bg, a6, aZ, aY, aX, aG, aw, az, aP, aL, aW, aQ, aM, aR, aV, ai, aN, bf, ay, aC, av, au, ap, aF, am, ao, ax, al, aA, aB, aU]
  unfold qS
  have hsum : ((cs.map fun c => (⟨#[c]⟩ : Str)).map (·.length)).sum = cs.length := by
    clear hl hcs e hy
    induction cs with
    | nil => rfl
    | cons c cs ih =>
      rw [List.map_cons, List.map_cons, List.sum_cons, ih, List.length_cons]
      show 1 + cs.length = _
      omega
  have hz : (Str.ofString "").length = 0 := by decide
  rw [if_pos (by rw [hsum, hz]; omega)]
  exact ⟨_, rfl, xz (by omega) (by omega) hcs⟩
def GV (p : List Str) : Prop := p.length = 6 ∧ ∀ z ∈ p, Syl z
theorem z8 {d : List Int} (h : Nm 7 d) : ∃ p, ii d = some p ∧ GV p := by
  unfold ii
  simp only [c1, c2, c3, c4, c5, bQ, br, cnx, crt, bR, bq, bh, bp, bn, bS, bg, a6, aZ, aY, aX, aG, aw, az, aP, aL, aW, aQ, aM, aR, aV, ai, aN, bf, ay, aC, av, au, ap, aF, am, ao, ax, al, aA, aB, aU, et h (show (0 : Int) ≤ 0 by omega) (by omega), bY (show (0 : Int) < 3 by omega)]
  rw [cy (by decide), cy (by decide)]
  simp only [c1, c2, c3, c4, c5, bQ, br, cnx, crt, bR, bq, bh, bp, bn, bS, bg, a6, aZ, aY, aX, aG, aw, az, aP, aL, aW, aQ, aM, aR, aV, ai, aN, bf, ay, aC, av, au, ap, aF, am, ao, ax, al, aA, aB, aU]
  split
  · exact ⟨_, rfl, by decide, k7 (by decide)⟩
  · simp only [c1, c2, c3, c4, c5, bQ, br, cnx, crt, bR, bq, bh, bp, bn, bS, bg, a6, aZ, aY, aX, aG, aw, az, aP, aL, aW, aQ, aM, aR, aV, ai, aN, bf, ay, aC, av, au, ap, aF, am, ao, ax, al, aA, aB, aU]
    split
    · exact ⟨_, rfl, by decide, k7 (by decide)⟩
    · simp only [c1, c2, c3, c4, c5, bQ, br, cnx, crt, bR, bq, bh, bp, bn, bS, bg, a6, aZ, aY, aX, aG, aw, az, aP, aL, aW, aQ, aM, aR, aV, ai, aN, bf, ay, aC, av, au, ap, aF, am, ao, ax, al, aA, aB, aU]
      rw [xG (by omega) (by omega) (by omega) (by omega)]
      simp only [c1, c2, c3, c4, c5, bQ, br, cnx, crt, bR, bq, bh, bp, bn, bS, bg, a6, aZ, aY, aX, aG, aw, az, aP, aL, aW, aQ, aM, aR, aV, ai, aN, bf, ay, aC, av, au, ap, aF, am, ao, ax, al, aA, aB, aU]
      obtain ⟨ys, e, hl, hy⟩ := vG (me := fun x3 : Int => b1 f_ (atI d x3)) (P := Syl) (xs := (List.range (7 - 1 : Int).toNat).map fun n : Nat => (1 : Int) + (n : Int)) (by decide) fun x hx => by
        obtain ⟨k, hk, rfl⟩ := List.mem_map.mp hx
        have hk' : k < 6 := by have := List.mem_range.mp hk; omega
        rw [et h (by omega) (by omega)]
        have := ph h ((1 : Int) + (k : Int)).toNat
        exact xF this.1 this.2
      rw [e]
      refine ⟨_, rfl, ?_, hy⟩
      rw [hl]; decide
theorem sJ {b : BL} {p : List Str} {d : List Int} (hb : ∀ v ∈ b, Ver v) (hp : 1 ≤ p.length) (hs : ∀ z ∈ p, Syl z) (hd : Nm 6 d) : ∃ v, gU b p d = some v ∧ Ver v := by
  unfold gU
  have g0 := ph hd 0
  have g1 := ph hd 1
  have g2 := yP (gI d 2)
  simp only [c1, c2, c3, c4, c5, bQ, br, cnx, crt, bR, bq, bh, bp, bn, bS, bg, a6, aZ, aY, aX, aG, aw, az, aP, aL, aW, aQ, aM, aR, aV, ai, aN, bf, ay, aC, av, au, ap, aF, am, ao, ax, al, aA, aB, aU, et hd (show (0 : Int) ≤ 0 by omega) (by omega), et hd (show (0 : Int) ≤ 1 by omega) (by omega), et hd (show (0 : Int) ≤ 2 by omega) (by omega), bY (show (0 : Int) < 3 by omega), bY (show (0 : Int) < 4 by omega), gt (show (0 : Int) < 4 by omega) (by omega)]
  rw [cy (by decide), cy (by decide), fB (by omega) (by omega)]
  simp only [c1, c2, c3, c4, c5, bQ, br, cnx, crt, bR, bq, bh, bp, bn, bS, bg, a6, aZ, aY, aX, aG, aw, az, aP, aL, aW, aQ, aM, aR, aV, ai, aN, bf, ay, aC, av, au, ap, aF, am, ao, ax, al, aA, aB, aU]
  refine yD (fun v : List Str => v.length ≤ 8 ∧ ∀ z ∈ v, Syl z) ?_ fun v hv => ?_
  · split
    · rename_i hc
      rw [Bool.and_eq_true] at hc
      have hne : b ≠ [] := by simpa using hc.1
      have hbl : 0 < b.length := List.length_pos_iff.mpr hne
      have m0 := Int.emod_nonneg (gI d 1) (show (b.length : Int) ≠ 0 by omega)
      have m1 := Int.emod_lt_of_pos (gI d 1) (show (0 : Int) < b.length by omega)
      rw [bY (show (0 : Int) < (b.length : Int) by omega)]
      simp only [c1, c2, c3, c4, c5, bQ, br, cnx, crt, bR, bq, bh, bp, bn, bS, bg, a6, aZ, aY, aX, aG, aw, az, aP, aL, aW, aQ, aM, aR, aV, ai, aN, bf, ay, aC, av, au, ap, aF, am, ao, ax, al, aA, aB, aU]
      rw [show (Int.toNat 1) = 1 from rfl, wa (b := b) ⟨m0, m1⟩]
      simp only [c1, c2, c3, c4, c5, bQ, br, cnx, crt, bR, bq, bh, bp, bn, bS, bg, a6, aZ, aY, aX, aG, aw, az, aP, aL, aW, aQ, aM, aR, aV, ai, aN, bf, ay, aC, av, au, ap, aF, am, ao, ax, al, aA, aB, aU]
      rw [bY (by omega)]
      simp only [c1, c2, c3, c4, c5, bQ, br, cnx, crt, bR, bq, bh, bp, bn, bS, bg, a6, aZ, aY, aX, aG, aw, az, aP, aL, aW, aQ, aM, aR, aV, ai, aN, bf, ay, aC, av, au, ap, aF, am, ao, ax, al, aA, aB, aU]
      have hv := hb _ (vh (b := b) ⟨m0, m1⟩)
      rw [e8 _ (Int.emod_nonneg _ (by omega))]
      refine ⟨_, rfl, ?_, fun z hz => hv.2.2 z (List.mem_of_mem_take hz)⟩
      rw [List.length_take]
      have := hv.2.1
      omega
    · exact ⟨_, rfl, by simp, by simp⟩
  · obtain ⟨ys, e, hl, hy⟩ := vG (me := fun x2 : Int => b2 atI (some p) (b1 (fun y => bJ y (p.length : Int)) (atI d (3 + x2)))) (P := Syl) (xs := (List.range (1 + gI d (Int.toNat 2) % 3).toNat).map fun n : Nat => (n : Int)) (by simp; omega) fun x hx => by
      obtain ⟨k, hk, rfl⟩ := List.mem_map.mp hx
      have hk' : k < 3 := by have := List.mem_range.mp hk; have : Int.toNat 2 = 2 := rfl; rw [this] at *; omega
      rw [et hd (by omega) (by omega)]
      simp only [c1, c2, c3, c4, c5, bQ, br, cnx, crt, bR, bq, bh, bp, bn, bS, bg, a6, aZ, aY, aX, aG, aw, az, aP, aL, aW, aQ, aM, aR, aV, ai, aN, bf, ay, aC, av, au, ap, aF, am, ao, ax, al, aA, aB, aU]
      rw [bY (by omega)]
      simp only [c1, c2, c3, c4, c5, bQ, br, cnx, crt, bR, bq, bh, bp, bn, bS, bg, a6, aZ, aY, aX, aG, aw, az, aP, aL, aW, aQ, aM, aR, aV, ai, aN, bf, ay, aC, av, au, ap, aF, am, ao, ax, al, aA, aB, aU]
      have m0 := Int.emod_nonneg (gI d (3 + (k : Int)).toNat) (show (p.length : Int) ≠ 0 by omega)
      have m1 := Int.emod_lt_of_pos (gI d (3 + (k : Int)).toNat) (show (0 : Int) < p.length by omega)
      rw [jx (z := Str.empty) m0 m1]
      exact ⟨_, rfl, hs _ (g_ (by omega))⟩
    have e' : lcM (fun x2 : Int => lcE (some true) (b2 atI (some p) (b2 bJ (atI d (3 + x2)) (some (p.length : Int))))) ((List.range (1 + gI d (Int.toNat 2) % 3).toNat).map fun n : Nat => (n : Int)) = some ys := by
      rw [← e]
      congr 1
    rw [e']
    have hl' : 1 ≤ ys.length ∧ ys.length ≤ 3 := by
      rw [hl, List.length_map, List.length_range]
      have : Int.toNat 2 = 2 := rfl
      rw [this]
      omega
    simp only [c1, c2, c3, c4, c5, bQ, br, cnx, crt, bR, bq, bh, bp, bn, bS, bg, a6, aZ, aY, aX, aG, aw, az, aP, aL, aW, aQ, aM, aR, aV, ai, aN, bf, ay, aC, av, au, ap, aF, am, ao, ax, al, aA, aB, aU]
    rw [hX (by omega)]
    simp only [c1, c2, c3, c4, c5, bQ, br, cnx, crt, bR, bq, bh, bp, bn, bS, bg, a6, aZ, aY, aX, aG, aw, az, aP, aL, aW, aQ, aM, aR, aV, ai, aN, bf, ay, aC, av, au, ap, aF, am, ao, ax, al, aA, aB, aU]
    rw [e8 _ (by omega)]
    refine ⟨_, rfl, ?_, ?_, fun z hz => ?_⟩
    · rw [List.length_take, List.length_append]; omega
    · rw [List.length_take]; omega
    · rcases List.mem_append.mp (List.mem_of_mem_take hz) with q | q
      · exact hv.2 z q
      · exact hy z q
end Kj

namespace Kj
open PySem L2
def wA : List Str := ["a", "b", "ab", "ba"]
def wB : List Str := ["a", "aa", "ba", "b"]
def wC : List Str := ["ka", "k", "a", "ki"]
def wD : List Str := ["ma", "a", "bab", "a", "b"]
def wAt (d : List Int) (k : Nat) : Int := (gI d 0 + (k : Int) * (1 + 2 * (gI d 1 % 32))) % 64
def iE (d : List Int) (k : Nat) : List Str := [wA.getD (wAt d k / 16).toNat Str.empty, wB.getD (wAt d k / 4 % 4).toNat Str.empty, wC.getD (wAt d k % 4).toNat Str.empty] ++ wD.take ((gI d 2 + (k : Int) * gI d 3) % 6).toNat
theorem ve (d : List Int) (k : Nat) : 0 ≤ wAt d k ∧ wAt d k < 64 := ⟨Int.emod_nonneg _ (by omega), Int.emod_lt_of_pos _ (by omega)⟩
theorem wf (d : List Int) (k : Nat) : Ver (iE d k) := by
  have hb := ve d k
  have m1 := Int.emod_nonneg (gI d 2 + (k : Int) * gI d 3) (show (6 : Int) ≠ 0 by omega)
  have m2 := Int.emod_lt_of_pos (gI d 2 + (k : Int) * gI d 3) (show (0 : Int) < 6 by omega)
  have la : wA.length = 4 := rfl
  have lb : wB.length = 4 := rfl
  have lc : wC.length = 4 := rfl
  have ld : wD.length = 5 := rfl
  refine ⟨?_, ?_, fun z hz => ?_⟩
  · simp [iE]
  · unfold iE
    rw [List.length_append, List.length_take, ld]
    simp
    omega
  · have sA : ∀ z ∈ wA, Syl z := k7 (by decide)
    have sB : ∀ z ∈ wB, Syl z := k7 (by decide)
    have sC : ∀ z ∈ wC, Syl z := k7 (by decide)
    have sD : ∀ z ∈ wD, Syl z := k7 (by decide)
    rcases List.mem_append.mp hz with h | h
    · rcases List.mem_cons.mp h with h | h
      · rw [h]; exact sA _ (g_ (by omega))
      · rcases List.mem_cons.mp h with h | h
        · rw [h]; exact sB _ (g_ (by omega))
        · rw [List.mem_singleton.mp h]; exact sC _ (g_ (by omega))
    · exact sD _ (List.mem_of_mem_take h)
theorem pg {l : List Str} (hn : l.Nodup) {i j : Nat} (hi : i < l.length) (hj : j < l.length) (h : l.getD i Str.empty = l.getD j Str.empty) : i = j := by
  rw [List.getD_eq_getElem?_getD, List.getD_eq_getElem?_getD, List.getElem?_eq_getElem hi, List.getElem?_eq_getElem hj] at h
  have h' : l[i] = l[j] := h
  rcases Nat.lt_trichotomy i j with q | q | q
  · exact absurd h' (List.pairwise_iff_getElem.mp hn i j hi hj q)
  · exact q
  · exact absurd h'.symm (List.pairwise_iff_getElem.mp hn j i hj hi q)
theorem Af {s : Int} (hs : s % 2 = 1) {a : Int} {i j : Nat} (hi : i < 64) (hj : j < 64) (h : (a + (i : Int) * s) % 64 = (a + (j : Int) * s) % 64) : i = j := by
  have h1 : (((i : Int) - j) * s) % 64 = 0 := by
    have e : ((i : Int) - j) * s = (a + (i : Int) * s) - (a + (j : Int) * s) := by rw [Int.sub_mul]; omega
    rw [e]
    omega
  have h2 : (64 : Int) ∣ ((i : Int) - j) * s := Int.dvd_of_emod_eq_zero h1
  have hc : Nat.Coprime (2 ^ 6) s.natAbs := Nat.Coprime.pow_left 6 (by
    rw [Nat.coprime_iff_gcd_eq_one, Nat.gcd_rec]
    have : s.natAbs % 2 = 1 := by omega
    rw [this]
    exact Nat.gcd_one_left _)
  have h4 : 2 ^ 6 ∣ ((i : Int) - j).natAbs * s.natAbs := by
    have := Int.natAbs_dvd_natAbs.mpr h2
    rw [Int.natAbs_mul] at this
    exact this
  have h3 := Nat.Coprime.dvd_of_dvd_mul_right hc h4
  omega
theorem wg {d : List Int} {i j : Nat} (hi : i < 64) (hj : j < 64) (hij : i ≠ j) : alk (iE d i) (iE d j) = false := by
  unfold alk
  refine decide_eq_false fun h => hij ?_
  have h3 : (iE d i).take 3 = (iE d j).take 3 := by
    have l1 : 3 ≤ (iE d i).length := by simp [iE]
    have l2 : 3 ≤ (iE d j).length := by simp [iE]
    have := congrArg (List.take 3) h
    rw [List.take_take, List.take_take, Nat.min_eq_left (by omega)] at this
    exact this
  have bi := ve d i
  have bj := ve d j
  have e3 : wA.getD (wAt d i / 16).toNat Str.empty = wA.getD (wAt d j / 16).toNat Str.empty ∧ wB.getD (wAt d i / 4 % 4).toNat Str.empty = wB.getD (wAt d j / 4 % 4).toNat Str.empty ∧ wC.getD (wAt d i % 4).toNat Str.empty = wC.getD (wAt d j % 4).toNat Str.empty := by
    simpa [iE] using h3
  have la : wA.length = 4 := rfl
  have lb : wB.length = 4 := rfl
  have lc : wC.length = 4 := rfl
  have q1 := pg (l := wA) (by decide) (by omega) (by omega) e3.1
  have q2 := pg (l := wB) (by decide) (by omega) (by omega) e3.2.1
  have q3 := pg (l := wC) (by decide) (by omega) (by omega) e3.2.2
  have he : wAt d i = wAt d j := by omega
  unfold wAt at he
  exact Af (by omega) hi hj he
theorem zN {d : List Int} {n : Nat} (hd : Nm 4 d) (hn : n ≤ 40) : gK d (n : Int) = some ((List.range n).map (iE d)) := by
  suffices h : ∃ b, gK d (n : Int) = some b ∧ b = (List.range n).map (iE d) by
    obtain ⟨b, e, rfl⟩ := h; exact e
  unfold gK
  have g1 := Int.emod_nonneg (gI d 1) (show (32 : Int) ≠ 0 by omega)
  have g2 := Int.emod_lt_of_pos (gI d 1) (show (0 : Int) < 32 by omega)
  simp only [c1, c2, c3, c4, c5, bQ, br, cnx, crt, bR, bq, bh, bp, bn, bS, bg, a6, aZ, aY, aX, aG, aw, az, aP, aL, aW, aQ, aM, aR, aV, ai, aN, bf, ay, aC, av, au, ap, aF, am, ao, ax, al, aA, aB, aU, et hd (show (0 : Int) ≤ 0 by omega) (by omega), et hd (show (0 : Int) ≤ 1 by omega) (by omega), et hd (show (0 : Int) ≤ 2 by omega) (by omega), et hd (show (0 : Int) ≤ 3 by omega) (by omega), bY (show (0 : Int) < 32 by omega), iY (i := 2) (by omega) (by omega)]
  have eA : aK (["a", "b", "ab", "ba"] : List Str) = some wA := cy (xs := wA) (by decide)
  have eB : aK (["a", "aa", "ba", "b"] : List Str) = some wB := cy (xs := wB) (by decide)
  have eC : aK (["ka", "k", "a", "ki"] : List Str) = some wC := cy (xs := wC) (by decide)
  have eD : aK (["ma", "a", "bab", "a", "b"] : List Str) = some wD := cy (xs := wD) (by decide)
  rw [fB (by omega) (by omega), eA, eB, eC, eD]
  simp only [c1, c2, c3, c4, c5, bQ, br, cnx, crt, bR, bq, bh, bp, bn, bS, bg, a6, aZ, aY, aX, aG, aw, az, aP, aL, aW, aQ, aM, aR, aV, ai, aN, bf, ay, aC, av, au, ap, aF, am, ao, ax, al, aA, aB, aU]
  refine oB (fun i s => i ≤ n → s = (List.range i).map (iE d)) (fun _ => rfl) ?_ fun s hs => ?_
  rotate_left
  · simp only [c1, c2, c3, c4, c5, bQ, br, cnx, crt, bR, bq, bh, bp, bn, bS, bg, a6, aZ, aY, aX, aG, aw, az, aP, aL, aW, aQ, aM, aR, aV, ai, aN, bf, ay, aC, av, au, ap, aF, am, ao, ax, al, aA, aB, aU]
    exact ⟨_, rfl, by rw [hs (by simp)]; simp⟩
  · intro i x s hx hs
    obtain ⟨hi, hx'⟩ := List.getElem?_eq_some_iff.mp hx
    have hi' : i < n := by simpa using hi
    have ex : x = (i : Int) := by rw [← hx']; simp
    subst ex
    have hs' := hs (by omega)
    subst hs'
    have hb := ve d i
    rw [iY (i := (i : Int)) (by omega) (by omega), iY (i := (i : Int)) (by omega) (by omega)]
    simp only [c1, c2, c3, c4, c5, bQ, br, cnx, crt, bR, bq, bh, bp, bn, bS, bg, a6, aZ, aY, aX, aG, aw, az, aP, aL, aW, aQ, aM, aR, aV, ai, aN, bf, ay, aC, av, au, ap, aF, am, ao, ax, al, aA, aB, aU]
    rw [bY (show (0 : Int) < 64 by omega)]
    simp only [c1, c2, c3, c4, c5, bQ, br, cnx, crt, bR, bq, bh, bp, bn, bS, bg, a6, aZ, aY, aX, aG, aw, az, aP, aL, aW, aQ, aM, aR, aV, ai, aN, bf, ay, aC, av, au, ap, aF, am, ao, ax, al, aA, aB, aU]
    rw [show (gI d (Int.toNat 0) + (i : Int) * (1 + 2 * (gI d (Int.toNat 1) % 32))) % 64 = wAt d i from rfl, gt (show (0 : Int) < 16 by omega) (by omega), gt (show (0 : Int) < 4 by omega) (by omega), bY (show (0 : Int) < 4 by omega), bY (show (0 : Int) < 6 by omega)]
    simp only [c1, c2, c3, c4, c5, bQ, br, cnx, crt, bR, bq, bh, bp, bn, bS, bg, a6, aZ, aY, aX, aG, aw, az, aP, aL, aW, aQ, aM, aR, aV, ai, aN, bf, ay, aC, av, au, ap, aF, am, ao, ax, al, aA, aB, aU]
    rw [bY (show (0 : Int) < 4 by omega)]
    simp only [c1, c2, c3, c4, c5, bQ, br, cnx, crt, bR, bq, bh, bp, bn, bS, bg, a6, aZ, aY, aX, aG, aw, az, aP, aL, aW, aQ, aM, aR, aV, ai, aN, bf, ay, aC, av, au, ap, aF, am, ao, ax, al, aA, aB, aU]
    have la : wA.length = 4 := rfl
    have lb : wB.length = 4 := rfl
    have lc : wC.length = 4 := rfl
    have ld : wD.length = 5 := rfl
    rw [jx (xs := wA) (z := Str.empty) (by omega) (by omega), jx (xs := wB) (z := Str.empty) (by omega) (by omega), jx (xs := wC) (z := Str.empty) (by omega) (by omega)]
    simp only [c1, c2, c3, c4, c5, bQ, br, cnx, crt, bR, bq, bh, bp, bn, bS, bg, a6, aZ, aY, aX, aG, aw, az, aP, aL, aW, aQ, aM, aR, aV, ai, aN, bf, ay, aC, av, au, ap, aF, am, ao, ax, al, aA, aB, aU]
    rw [cy (by simp)]
    simp only [c1, c2, c3, c4, c5, bQ, br, cnx, crt, bR, bq, bh, bp, bn, bS, bg, a6, aZ, aY, aX, aG, aw, az, aP, aL, aW, aQ, aM, aR, aV, ai, aN, bf, ay, aC, av, au, ap, aF, am, ao, ax, al, aA, aB, aU]
    rw [e8 _ (Int.emod_nonneg _ (by omega)), hX (by rw [List.length_take, ld]; simp; omega)]
    simp only [c1, c2, c3, c4, c5, bQ, br, cnx, crt, bR, bq, bh, bp, bn, bS, bg, a6, aZ, aY, aX, aG, aw, az, aP, aL, aW, aQ, aM, aR, aV, ai, aN, bf, ay, aC, av, au, ap, aF, am, ao, ax, al, aA, aB, aU]
    rw [mV (by simp; omega)]
    refine ⟨_, rfl, fun _ => ?_⟩
    rw [List.range_succ, List.map_append]
    rfl
theorem wd {d : List Int} {n m : Nat} (h1 : 1 ≤ n) (hn : n ≤ m) (hm : m ≤ 40) : qe m ((List.range n).map (iE d)) := by
  refine ⟨by simp; exact h1, by simp; exact hn, fun v hv => ?_, ?_⟩
  · obtain ⟨k, _, rfl⟩ := List.mem_map.mp hv
    exact wf d k
  · rw [List.pairwise_map]
    refine List.Pairwise.imp_of_mem ?_ (List.pairwise_lt_range (n := n))
    intro i j hi hj hij
    have := List.mem_range.mp hi
    have := List.mem_range.mp hj
    exact wg (by omega) (by omega) (by omega)
theorem u7 {d : List Int} {m : Nat} (h1 : 1 ≤ m) (hm : m ≤ 40) (hd : Nm (9 + 6 * m) d) : ∃ b, gL d (m : Int) = some b ∧ qe m b := by
  unfold gL
  have g0 := ph hd 0
  have m0 := Int.emod_nonneg (gI d 0) (show (m : Int) ≠ 0 by omega)
  have m1 := Int.emod_lt_of_pos (gI d 0) (show (0 : Int) < m by omega)
  have g8 := ph hd 8
  simp only [c1, c2, c3, c4, c5, bQ, br, cnx, crt, bR, bq, bh, bp, bn, bS, bg, a6, aZ, aY, aX, aG, aw, az, aP, aL, aW, aQ, aM, aR, aV, ai, aN, bf, ay, aC, av, au, ap, aF, am, ao, ax, al, aA, aB, aU, et hd (show (0 : Int) ≤ 0 by omega) (by omega), et hd (show (0 : Int) ≤ 8 by omega) (by omega), bY (show (0 : Int) < 5 by omega), gt (show (0 : Int) < 5 by omega) (by omega), bY (show (0 : Int) < (m : Int) by omega)]
  rw [p_ _ (by omega) (by omega), p_ _ (by omega) (by omega)]
  rw [show ((1 : Int) + gI d (Int.toNat 0) % (m : Int)) = (((1 + (gI d 0 % (m : Int)).toNat : Nat)) : Int) by show (1 : Int) + gI d 0 % (m : Int) = _; omega]
  generalize hq : (1 + (gI d 0 % (m : Int)).toNat : Nat) = q
  have q1 : 1 ≤ q ∧ q ≤ m := by omega
  split
  · have hd4 : Nm 4 ((d.drop (1 : Int).toNat).take ((5 : Int).toNat - (1 : Int).toNat)) := ((hd.drop 1).take 4 (by omega))
    rw [zN hd4 (by omega)]
    simp only [c1, c2, c3, c4, c5, bQ, br, cnx, crt, bR, bq, bh, bp, bn, bS, bg, a6, aZ, aY, aX, aG, aw, az, aP, aL, aW, aQ, aM, aR, aV, ai, aN, bf, ay, aC, av, au, ap, aF, am, ao, ax, al, aA, aB, aU]
    exact ⟨_, rfl, wd q1.1 q1.2 hm⟩
  · simp only [c1, c2, c3, c4, c5, bQ, br, cnx, crt, bR, bq, bh, bp, bn, bS, bg, a6, aZ, aY, aX, aG, aw, az, aP, aL, aW, aQ, aM, aR, aV, ai, aN, bf, ay, aC, av, au, ap, aF, am, ao, ax, al, aA, aB, aU]
    have hd7 : Nm 7 ((d.drop (1 : Int).toNat).take ((8 : Int).toNat - (1 : Int).toNat)) := ((hd.drop 1).take 7 (by omega))
    obtain ⟨p, ep, hp⟩ := z8 hd7
    rw [ep]
    simp only [c1, c2, c3, c4, c5, bQ, br, cnx, crt, bR, bq, bh, bp, bn, bS, bg, a6, aZ, aY, aX, aG, aw, az, aP, aL, aW, aQ, aM, aR, aV, ai, aN, bf, ay, aC, av, au, ap, aF, am, ao, ax, al, aA, aB, aU]
    have z5 := Int.emod_nonneg (gI d (Int.toNat 8)) (show (5 : Int) ≠ 0 by omega)
    rw [e8 _ (by omega), fB (by omega) (by omega)]
    simp only [c1, c2, c3, c4, c5, bQ, br, cnx, crt, bR, bq, bh, bp, bn, bS, bg, a6, aZ, aY, aX, aG, aw, az, aP, aL, aW, aQ, aM, aR, aV, ai, aN, bf, ay, aC, av, au, ap, aF, am, ao, ax, al, aA, aB, aU]
    have hp1 : 1 ≤ (p.take (2 + gI d (Int.toNat 8) % 5).toNat).length := by rw [List.length_take, hp.1]; omega
    have hp2 : ∀ z ∈ p.take (2 + gI d (Int.toNat 8) % 5).toNat, Syl z := fun z hz => hp.2 z (List.mem_of_mem_take hz)
    refine oB (fun i (s : BL) => s.length ≤ i ∧ (1 ≤ i → 1 ≤ s.length) ∧ (∀ v ∈ s, Ver v) ∧ s.Pairwise (fun x y => alk x y = false)) ⟨by simp, by omega, by simp, by simp⟩ ?_ ?_
    · rintro i x s hx ⟨hl, hl1, hv, hw⟩
      obtain ⟨hi, hx'⟩ := List.getElem?_eq_some_iff.mp hx
      have hi' : i < q := by simpa using hi
      have ex : x = (i : Int) := by rw [← hx']; simp
      subst ex
      rw [iY (i := 6) (by omega) (by omega)]
      simp only [c1, c2, c3, c4, c5, bQ, br, cnx, crt, bR, bq, bh, bp, bn, bS, bg, a6, aZ, aY, aX, aG, aw, az, aP, aL, aW, aQ, aM, aR, aV, ai, aN, bf, ay, aC, av, au, ap, aF, am, ao, ax, al, aA, aB, aU]
      rw [p_ _ (by omega) (by omega)]
      have hd6 : Nm 6 ((d.drop (9 + 6 * (i : Int)).toNat).take ((15 + 6 * (i : Int)).toNat - (9 + 6 * (i : Int)).toNat)) := by
        have := (hd.drop (9 + 6 * (i : Int)).toNat).take 6 (by omega)
        rw [show (15 + 6 * (i : Int)).toNat - (9 + 6 * (i : Int)).toNat = 6 by omega]
        exact this
      obtain ⟨v, ev, hv1⟩ := sJ hv hp1 hp2 hd6
      rw [ev]
      simp only [c1, c2, c3, c4, c5, bQ, br, cnx, crt, bR, bq, bh, bp, bn, bS, bg, a6, aZ, aY, aX, aG, aw, az, aP, aL, aW, aQ, aM, aR, aV, ai, aN, bf, ay, aC, av, au, ap, aF, am, ao, ax, al, aA, aB, aU]
      rw [gJ (fun w => !alk v w) (by omega) fun w _ => by rw [t_]; rfl]
      simp only [c1, c2, c3, c4, c5, bQ, br, cnx, crt, bR, bq, bh, bp, bn, bS, bg, a6, aZ, aY, aX, aG, aw, az, aP, aL, aW, aQ, aM, aR, aV, ai, aN, bf, ay, aC, av, au, ap, aF, am, ao, ax, al, aA, aB, aU]
      by_cases ha : (s.map fun w => !alk v w).all id = true
      · rw [ha, if_pos rfl, mV (by omega)]
        simp only [c1, c2, c3, c4, c5, bQ, br, cnx, crt, bR, bq, bh, bp, bn, bS, bg, a6, aZ, aY, aX, aG, aw, az, aP, aL, aW, aQ, aM, aR, aV, ai, aN, bf, ay, aC, av, au, ap, aF, am, ao, ax, al, aA, aB, aU]
        refine ⟨_, rfl, by simp; omega, by simp, fun w hw' => ?_, ?_⟩
        · rcases List.mem_append.mp hw' with z | z
          · exact hv w z
          · rw [List.mem_singleton.mp z]; exact hv1
        · rw [List.pairwise_append]
          refine ⟨hw, by simp, fun x hx y hy => ?_⟩
          rw [List.mem_singleton.mp hy]
          have := List.all_eq_true.mp ha _ (List.mem_map.mpr ⟨x, hx, rfl⟩)
          rw [zI]
          simpa using this
      · rw [Bool.not_eq_true] at ha
        rw [ha, if_neg Bool.false_ne_true]
        simp only [c1, c2, c3, c4, c5, bQ, br, cnx, crt, bR, bq, bh, bp, bn, bS, bg, a6, aZ, aY, aX, aG, aw, az, aP, aL, aW, aQ, aM, aR, aV, ai, aN, bf, ay, aC, av, au, ap, aF, am, ao, ax, al, aA, aB, aU]
        refine ⟨_, rfl, by omega, fun _ => ?_, hv, hw⟩
        cases s with
        | nil => simp at ha
        | cons _ _ => simp
    · rintro s ⟨hl, hl1, hv, hw⟩
      simp only [c1, c2, c3, c4, c5, bQ, br, cnx, crt, bR, bq, bh, bp, bn, bS, bg, a6, aZ, aY, aX, aG, aw, az, aP, aL, aW, aQ, aM, aR, aV, ai, aN, bf, ay, aC, av, au, ap, aF, am, ao, ax, al, aA, aB, aU]
      have hql : ((List.range ((q : Nat) : Int).toNat).map fun n : Nat => (n : Int)).length = q := by simp
      rw [hql] at hl hl1
      exact ⟨_, rfl, hl1 q1.1, by omega, hv, hw⟩
theorem Fc {a b c : Nat} (x : Int) : ∃ m : Nat, atI [(a : Int), (b : Int), (c : Int)] (x % 3) = some (m : Int) ∧ min a (min b c) ≤ m ∧ m ≤ max a (max b c) := by
  have h := yP x
  rcases (show x % 3 = 0 ∨ x % 3 = 1 ∨ x % 3 = 2 by omega) with e | e | e
  · rw [e]; exact ⟨a, rfl, by omega, by omega⟩
  · rw [e]; exact ⟨b, rfl, by omega, by omega⟩
  · rw [e]; exact ⟨c, rfl, by omega, by omega⟩
theorem oX {α : Type} [Enc α] (xs : List α) : gn (en xs) = true ↔ xs.length ≤ 100000 ∧ ∀ x ∈ xs, gn (en x) = true := by
  show gn (.list (xs.map en)) = true ↔ _
  rw [gn, Bool.and_eq_true, decide_eq_true_iff, List.length_map, jU]
  simp
theorem wo (i : Int) : gn (en i) = true := by show gn (.int i) = true; simp [gn]
theorem wn (i : Str) : gn (en i) = true := by show gn (.str i) = true; simp [gn]
theorem oW {xs : List Str} (h : xs.length ≤ 100000) : gn (en xs) = true := (oX xs).mpr ⟨h, fun x _ => wn x⟩
def Unr (m : Nat) (u : List Int) : Prop := u.length ≤ m + 2 ∧ ∀ n ∈ u, 0 ≤ n ∧ n < (m : Int)
end Kj

namespace Kj
open PySem L2
def hur (b : BL) (u : List Int) (v : Int) : List (List Int) := (List.range (dsz b u v)).map fun s : Nat => riv b u v (s : Int)
theorem qe.mono {m n : Nat} {b : BL} (h : qe m b) (hm : m ≤ n) : qe n b := ⟨h.1, Nat.le_trans h.2.1 hm, h.2.2⟩
end Kj

namespace Kj
open PySem L2
def gst (b : BL) (sz : Nat) (c : Ct) (n : Int) : Ct := if sz < (vAt b n).length then Eu c ((vAt b n).getD sz Str.empty) ((BG c ((vAt b n).getD sz Str.empty)).getD 0 + 1) else c
def gos (b : BL) (u : List Int) (h : List Str) : Ct := (uq b u h).foldl (gst b h.length) []
theorem ye (b : BL) (u : List Int) (h : List Str) : (uq b u h).length ≤ u.length := Nat.le_trans (List.length_filter_le _ _) (sO u)
end Kj

namespace Kj
open PySem L2
theorem zV (i : Int) : gn (en i) = true := wo i
end Kj

namespace Kj
open PySem L2
def nxt (b : BL) (sz : Nat) (s : Str) (n : Int) : Bool := decide (sz < (vAt b n).length) && decide ((vAt b n).getD sz Str.empty = s)
def cnt (b : BL) (sz : Nat) (s : Str) (ns : List Int) : Nat := (ns.filter (nxt b sz s)).length
structure GInv (b : BL) (sz : Nat) (dn : List Int) (c : Ct) : Prop where
  nd : (c.map P2.a).Nodup
  val : ∀ p ∈ c, p.b = (cnt b sz p.a dn : Int) ∧ 0 < cnt b sz p.a dn
  all : ∀ s, 0 < cnt b sz s dn → s ∈ c.map P2.a
theorem qa (b : BL) (sz : Nat) (s : Str) (dn : List Int) (n : Int) : cnt b sz s (dn ++ [n]) = cnt b sz s dn + if nxt b sz s n = true then 1 else 0 := by
  unfold cnt
  rw [List.filter_append, List.length_append]
  congr 1
  by_cases h : nxt b sz s n = true
  · rw [if_pos h, List.filter_cons_of_pos h]; rfl
  · rw [if_neg h, List.filter_cons_of_neg h]; rfl
theorem GInv.step {b : BL} {sz : Nat} {dn : List Int} {c : Ct} (g : GInv b sz dn c) (n : Int) : GInv b sz (dn ++ [n]) (gst b sz c n) := by
  unfold gst
  by_cases h : sz < (vAt b n).length
  · rw [if_pos h]
    have hx : ∀ s, nxt b sz s n = true ↔ s = (vAt b n).getD sz Str.empty := fun s => by
      unfold nxt
      rw [Bool.and_eq_true, decide_eq_true_iff, decide_eq_true_iff]
      exact ⟨fun z => z.2.symm, fun z => ⟨h, z.symm⟩⟩
    generalize (vAt b n).getD sz Str.empty = s0 at hx ⊢
    have c0 : cnt b sz s0 (dn ++ [n]) = cnt b sz s0 dn + 1 := by rw [qa, if_pos ((hx s0).mpr rfl)]
    have c1' : ∀ s, s ≠ s0 → cnt b sz s (dn ++ [n]) = cnt b sz s dn := fun s hs => by rw [qa, if_neg (fun z => hs ((hx s).mp z))]; rfl
    have hget : (BG c s0).getD 0 = (cnt b sz s0 dn : Int) := by
      unfold BG
      cases hf : c.find? fun p => decide (p.a = s0) with
      | none =>
        have hn : s0 ∉ c.map P2.a := fun z => by
          obtain ⟨p, hp, e⟩ := List.mem_map.mp z
          have := List.find?_eq_none.mp hf p hp
          simp [e] at this
        have : cnt b sz s0 dn = 0 := by
          rcases Nat.eq_zero_or_pos (cnt b sz s0 dn) with z | z
          · exact z
          · exact (hn (g.all s0 z)).elim
        rw [this]; rfl
      | some p =>
        have h1 := List.mem_of_find?_eq_some hf
        have h2 : p.a = s0 := by have := List.find?_some hf; simpa using this
        have := (g.val p h1).1
        rw [h2] at this
        exact this
    rw [hget]
    unfold Eu
    by_cases ha : (c.any fun p => decide (p.a = s0)) = true
    · rw [if_pos ha]
      have ek : (c.map fun p => if p.a = s0 then (⟨p.a, (cnt b sz s0 dn : Int) + 1⟩ : P2 Str Int) else p).map P2.a = c.map P2.a := by
        rw [List.map_map]
        apply List.map_congr_left
        intro p _
        show (if p.a = s0 then (⟨p.a, (cnt b sz s0 dn : Int) + 1⟩ : P2 Str Int) else p).a = p.a
        split <;> rfl
      refine ⟨by rw [ek]; exact g.nd, fun p hp => ?_, fun s hs => ?_⟩
      · obtain ⟨q, hq, rfl⟩ := List.mem_map.mp hp
        by_cases hqs : q.a = s0
        · rw [if_pos hqs]
          show _ = ((cnt b sz q.a (dn ++ [n]) : Nat) : Int) ∧ 0 < cnt b sz q.a (dn ++ [n])
          rw [hqs, c0]
          exact ⟨by push_cast; rfl, by omega⟩
        · rw [if_neg hqs, c1' _ hqs]; exact g.val q hq
      · rw [ek]
        by_cases hss : s = s0
        · obtain ⟨p, hp, e⟩ := List.any_eq_true.mp ha
          exact List.mem_map.mpr ⟨p, hp, by rw [hss]; simpa using e⟩
        · rw [c1' _ hss] at hs; exact g.all s hs
    · rw [if_neg ha]
      have hn : s0 ∉ c.map P2.a := fun z => by
        obtain ⟨p, hp, e⟩ := List.mem_map.mp z
        exact ha (List.any_eq_true.mpr ⟨p, hp, by simpa using e⟩)
      refine ⟨?_, fun p hp => ?_, fun s hs => ?_⟩
      · rw [List.map_append, List.nodup_append]
        refine ⟨g.nd, by simp, fun x hx y hy e => ?_⟩
        have : y = s0 := by simpa using hy
        rw [e, this] at hx
        exact hn hx
      · rcases List.mem_append.mp hp with hp | hp
        · have hne : p.a ≠ s0 := fun z => hn (List.mem_map.mpr ⟨p, hp, z⟩)
          rw [c1' _ hne]; exact g.val p hp
        · rw [List.mem_singleton.mp hp]
          show _ = ((cnt b sz s0 (dn ++ [n]) : Nat) : Int) ∧ 0 < cnt b sz s0 (dn ++ [n])
          rw [c0]
          exact ⟨by push_cast; rfl, by omega⟩
      · rw [List.map_append]
        by_cases hss : s = s0
        · rw [hss]; simp
        · rw [c1' _ hss] at hs; exact List.mem_append_left _ (g.all s hs)
  · rw [if_neg h]
    have hx : ∀ s, ¬ nxt b sz s n = true := fun s z => by
      unfold nxt at z
      rw [Bool.and_eq_true, decide_eq_true_iff] at z
      exact h z.1
    have c1' : ∀ s, cnt b sz s (dn ++ [n]) = cnt b sz s dn := fun s => by rw [qa, if_neg (hx s)]; rfl
    exact ⟨g.nd, fun p hp => by rw [c1']; exact g.val p hp, fun s hs => by rw [c1'] at hs; exact g.all s hs⟩
end Kj

namespace Kj
open PySem L2
structure DealT where
  source : BookT
  fields : List (List (List Int))
  deriving DecidableEq
abbrev FX (K : PySem.W.Frag) : Addr := He.ga K "Deal"
abbrev Fi (K : PySem.W.Frag) (d : DealT) : List (Str × Abs) := [("source", bV K d.source), ("fields", aE K d.fields)]
abbrev Cn (K : PySem.W.Frag) (d : DealT) : Abs := kf (FX K) (Fi K d)
def iM (aj : (List (List Int))) : Option (List (List Int)) := ba (S := Unit) (R := (List (List Int))) 
  (b1 (fun r => some (Fl.rt r)) (b1 (lcM fun x1 => lcE (some true) (b1 jh (some x1))) (some aj)))
def mA (cj : (List (List Int))) : Option (List (List Int)) := ba (S := Unit) (R := (List (List Int))) 
  (b1 (fun r => some (Fl.rt r)) (b1 (lcM fun x1 => lcE (some true) (b1 jh (some x1))) (some cj)))
def pD (bv : BookT) (cb : (List (List (List Int)))) : Option Unit := jr (S := Unit) 
  (ah (S1 := Unit) (b1 (fun xs => cD (fun x2 s1 => (ah (S1 := Unit) (a9 (dC (chM leI leI (some (1 : Int)) (b1 b7 (some x2)) (some (3 : Int))))
    none
    (some (Fl.nx ()))) fun s6 => (ah (S1 := Unit) (a9 (b1 BN (b1 (lcM fun x7 => lcE (some true) (b2 gtI (b1 b7 (some x7)) (some (12 : Int)))) (some x2)))
    none
    (some (Fl.nx ()))) fun s8 => (some (Fl.nx ()))))) xs ()) (some cb)) fun s1 => (b1 (fun lV => (ah (S1 := Unit) (a9 (dC (b1 nH (b1 (lcM fun x12 => lcE (some true) (chM leI ltI (some (0 : Int)) (some x12) (b1 dh (some bv) ))) (some lV))))
    none
    (some (Fl.nx ()))) fun s13 => (ah (S1 := Unit) (a9 (b2 ltI (b1 lenSetIM (some lV)) (b1 b7 (some lV)))
    none
    (some (Fl.nx ()))) fun s14 => (some (Fl.nx ())))))
    (b1 lim (b1 (lS fun x9 => a9 (some true) (b1 (lS fun x10 => a9 (some true) (b1 (lS fun x11 => a9 (some true) (b1 wG (some x11)) (some [])) (some x10)) (some [])) (some x9)) (some [])) (some cb)))))
def dO (bv : BookT) (xl : (List (List Int))) (fm : (List (List Int))) : Option DealT := De (R := Unit)
  (b1 (fun _ => (b1 (fun y0 => (b1 (fun y1 => (some (Fl.nx (⟨y0, y1⟩ : DealT)))) (b1 aK (b2 ar (b1 mA (some xl)) (b2 ar (b1 mA (some fm)) (some ([] : List (List (List Int))))))))) (some bv))) (b2 pD (some bv) (b1 aK (b2 ar (some xl) (b2 ar (some fm) (some ([] : List (List (List Int)))))))))
def bA (ac : DealT) : Option BookT := ba (S := Unit) (R := BookT) 
  (b1 (fun r => some (Fl.rt r)) ((some ac).map DealT.source))
def qy (cz : Int) : Option Unit := jr (S := Unit) 
  (ah (S1 := Unit) (a9 (dC (chM leI leI (some (0 : Int)) (some cz) (some (1 : Int))))
    none
    (some (Fl.nx ()))) fun s1 => (some (Fl.nx ())))
def dZ (ac : DealT) (cz : Int) : Option (List (List Int)) := ba (S := Unit) (R := (List (List Int))) 
  (b1 (fun _ => (b1 (fun r => some (Fl.rt r)) (b1 mA (b2 atI ((some ac).map DealT.fields) (some cz))))) (b1 qy (some cz)))
def eL (ac : DealT) (cz : Int) : Option (List Int) := ba (S := Unit) (R := (List Int)) 
  (b1 (fun r => some (Fl.rt r)) (b1 lim (b1 (lS fun x1 => a9 (some true) (b1 (lS fun x2 => a9 (some true) (b1 wG (some x2)) (some [])) (some x1)) (some [])) (b2 dZ (some ac) (some cz)))))
def iZ (aI : DealT) (bL : (List Int)) (cz : Int) : Option (List Int) := ba (S := Unit) (R := (List Int)) 
  (b1 (fun lV => (b1 (fun r => some (Fl.rt r)) (b1 (lcM fun x1 => lcE (b2 jW (some x1) (some lV)) (some x1)) (some bL))))
    (b2 eL (some aI) (some cz)))
def tS (aI : DealT) (a_ : (List Int)) (dR : (List Str)) : Option (List Int) := ba (S := Unit) (R := (List Int)) 
  (b1 (fun iU => (b1 (fun r => some (Fl.rt r)) (b1 (lcM fun x1 => lcE (dC ((b3 iZ (some aI) (some iU) (some x1)).map fun xs => !xs.isEmpty)) (some x1)) (b1 rngM (some (2 : Int))))))
    (b3 jG (b1 bA (some aI) ) (some a_) (some dR)))
def Cd (aa : (List (List Str))) (af : (List Int)) : Option (List Str) := ba (S := Unit) (R := (List Str)) 
  (b1 (fun a7 => (b1 (fun cw => (ah (S1 := (List Str)) (a9 (b2 eqM (b2 bJ (b2 atI (some af) (some (2 : Int))) (some (7 : Int))) (some (6 : Int)))
    (b1 (fun bw => (b1 (fun cw => (some (Fl.nx cw)))
    (b2 dw (b2 dw (b3 cM (some cw) ce (bN (some bw))) (b1 aK (b2 ar (b2 atI (b1 aK (b2 ar (some ("" : Str)) (b2 ar (some ("a" : Str)) (b2 ar (some ("zzz" : Str)) (b2 ar (b2 atI (some a7) (b1 jY (some (1 : Int)))) (b2 ar (some ("Ab" : Str)) (some ([] : List Str)))))))) (b2 bJ (b2 hW (b2 atI (some af) (some (2 : Int))) (some (7 : Int))) (some (5 : Int)))) (some ([] : List Str))))) (b3 cM (some cw) (bN (some bw)) ce))))
    (b2 bJ (b2 hW (b2 atI (some af) (some (2 : Int))) (some (35 : Int))) (b2 cN (b1 b7 (some cw)) (some (1 : Int)))))
    (some (Fl.nx cw))) fun s1 => (b1 (fun r => some (Fl.rt r)) (some s1))))
    (b3 cM (some a7) ce (bN (b2 bJ (b2 atI (some af) (some (1 : Int))) (b2 cN (b1 b7 (some a7)) (some (1 : Int))))))))
    (b2 atI (some aa) (b2 bJ (b2 atI (some af) (some (0 : Int))) (b1 b7 (some aa)))))
def j3 (aa : (List (List Str))) (aJ : (List Int)) (cw : (List Str)) : Option (List Int) := ba (S := Unit) (R := (List Int)) 
  (b1 (fun bc => (b1 (fun r => some (Fl.rt r)) (b1 (lcM fun x1 => lcE (fG (b2 inM (some x1) (some aJ)) (b2 eqM (b3 cM (b2 atI (some aa) (some x1)) ce (bN (some bc))) (some cw))) (some x1)) (b1 rngM (b1 b7 (some aa))))))
    (b1 b7 (some cw)))
def Do (cu : BookT) (aj : (List (List (List Int)))) : Option DealT := ba (S := Unit) (R := DealT) 
  (b1 (fun r => some (Fl.rt r)) (b3 dO (some cu) (b1 iM (b2 atI (some aj) (some (0 : Int)))) (b1 iM (b2 atI (some aj) (some (1 : Int))))))
def eW (aj : (List (List (List Int)))) (bz : Int) : Option Int := ba (S := Unit) (R := Int) 
  (b1 (fun lW => (b1 (fun r => some (Fl.rt r)) (b2 atI (b2 dw (some lW) (b1 aK (b2 ar (b1 jY (some (1 : Int))) (some ([] : List Int))))) (some (0 : Int)))))
    (b1 (lcM fun x1 => lcE (b1 BN (b1 (lcM fun x2 => lcE (some true) (b2 inM (some bz) (some x2))) (b2 atI (some aj) (some x1)))) (some x1)) (b1 rngM (some (2 : Int)))))
def Cc (a8 : (List Int)) (c7 : Int) : Option (P3 (List (List Str)) (List (List (List Int))) (List Int)) := ba (S := Unit) (R := (P3 (List (List Str)) (List (List (List Int))) (List Int))) 
  (b1 (fun aa => (b1 (fun aj => (b1 (fun aJ => (b1 (fun r => some (Fl.rt r)) (b3 mk3 (some aa) (some aj) (some aJ))))
    (b2 rS (b1 b7 (some aa)) (b3 cM (some a8) (bN (b2 cN (some (30 : Int)) (b2 fE (some (7 : Int)) (some c7)))) ce))))
    (b2 f_law_fields (b1 b7 (some aa)) (b3 cM (some a8) (bN (b2 cN (some (20 : Int)) (b2 fE (some (6 : Int)) (some c7)))) ce))))
    (b2 gL (b3 cM (some a8) (bN (some (2 : Int))) ce) (some c7)))
def mw (aj : (List (List (List Int)))) (bW : (List Int)) (db : Int) : Option Bool := ba (S := Unit) (R := Bool) 
  (b1 (fun r => some (Fl.rt r)) (b1 nH (b1 (lcM fun x1 => lcE (some true) (b2 eqM (b2 eW (some aj) (some x1)) (some db))) (some bW))))
def pz (aa : (List (List Str))) (aj : (List (List (List Int)))) (aJ : (List Int)) (cw : (List Str)) : Option (List Int) := ba (S := Unit) (R := (List Int)) 
  (b1 (fun re => (b1 (fun r => some (Fl.rt r)) (b1 (lcM fun x1 => lcE (b3 mw (some aj) (some re) (some x1)) (some x1)) (b1 rngM (some (2 : Int))))))
    (b3 j3 (some aa) (some aJ) (some cw)))
end Kj

namespace Kj
open PySem PySem.SeqAt PySem.W PyProof.Rows L2
def Ha (K : PySem.W.Frag) (f : Int → Int → Int) : List V → List V → Hp → VK → Prop := fun vs zs H Q => ∃ (a : Addr) (ns : List Int) (z : V), vs = [V.ref a] ∧ zs = [z] ∧ SqL K H a (ns.map V.int) ∧ (ns = [] → Q z H) ∧ ∀ n r, ns = n :: r → Q (.int (r.foldl f n)) H
def mxD (ns : List Int) (z : Int) : Option Int := some (match ns with | [] => z | n :: r => r.foldl max n)
def GE (ns : List Int) (z : Option Int) : Option (Option Int) := some (match ns with | [] => z | n :: r => some (r.foldl min n))
section
variable {H0 : Hp} {ρ : List Slot} {K : PySem.W.Frag} {f fa fb : Bool} {te td : TE}
end
end Kj

namespace Kj
open PySem L2
def cY (ac : DealT) (ak : Int) : Option (Option (P3 Int Int Int)) := ba (S := Unit) (R := (Option (P3 Int Int Int))) 
  (b1 (fun _ => (ah (S1 := Unit) (b1 (fun xs => cD (fun x2 s1 => (ah (S1 := Unit) (b1 (fun xs => cD (fun x8 s7 => (ah (S1 := Unit) (a9 (b2 inM (some ak) (some x8.b))
    (b1 (fun r => some (Fl.rt r)) ((b3 mk3 (some x2.a) (some x8.a) (b2 C7 (some x8.b) (some ak))).map some))
    (some (Fl.nx ()))) fun s10 => (some (Fl.nx ())))) xs ()) (b1 gX (some x2.b))) fun s7 => (some (Fl.nx ())))) xs ()) (b1 gX ((some ac).map DealT.fields))) fun s1 => (b1 (fun r => some (Fl.rt r)) (some (none : (Option (P3 Int Int Int))))))) (b2 cA ((some ac).map DealT.source) (some ak)))
def iN (aI : DealT) (ak : Int) : Option Int := ba (S := Unit) (R := Int) 
  (b1 (fun e9 => (ah (S1 := Unit) (a9 ((some e9).map Option.isNone)
    none
    (some (Fl.nx ()))) fun s1 => (b1 (fun r => some (Fl.rt r)) (((some e9).bind id).map P3.a))))
    (b2 cY (some aI) (some ak)))
def yE (aI : DealT) (a_ : (List Int)) (ak : Int) : Option Int := ba (S := Unit) (R := Int) 
  (b1 (fun bv => (b1 (fun fT => (b1 (fun cz => (b1 (fun r => some (Fl.rt r)) (b2 mxD (b1 (lcM fun x1 => lcE (some true) (b2 cN (b3 jF (some bv) (some ak) (some x1)) (some (1 : Int)))) (b3 iZ (some aI) (some fT) (some cz))) (some (0 : Int)))))
    (b2 iN (some aI) (some ak))))
    (b4 kE (some bv) (some a_) (some ak) (some (0 : Int)))))
    (b1 bA (some aI) ))
def mv (aa : (List (List Str))) (aJ : (List Int)) (bz : Int) (bc : Int) : Option (List Int) := ba (S := Unit) (R := (List Int)) 
  (b1 (fun bH => (b1 (fun r => some (Fl.rt r)) (b1 (lcM fun x2 => lcE (b2 geI (b3 tQ (some aa) (some bz) (some x2)) (some bc)) (some x2)) (some bH))))
    (b1 (lcM fun x1 => lcE (fG (b2 inM (some x1) (some aJ)) (b2 neM (some x1) (some bz))) (some x1)) (b1 rngM (b1 b7 (some aa)))))
def mx (aa : (List (List Str))) (aj : (List (List (List Int)))) (aJ : (List Int)) (bz : Int) : Option Int := ba (S := Unit) (R := Int) 
  (b1 (fun db => (b1 (fun bc => (ah (S1 := Int) (gZ (fun s1 => (dC (b3 mw (some aj) (b4 mv (some aa) (some aJ) (some bz) (some s1)) (some db)))) (fun s1 => (b1 (fun y => (fun bc => (some (Fl.nx bc))) ((fun i j => i + j) s1 y)) (some (1 : Int)))) fuelN bc) fun s1 => (b1 (fun r => some (Fl.rt r)) (some s1))))
    (some (0 : Int))))
    (b2 eW (some aj) (some bz)))
end Kj

namespace Kj
open PySem PySem.SeqAt PySem.W PyProof.Rows L2
def qq (k : Bool) : Option Int := some (if k = true then 1 else 0)
def BX {α : Type} (xs : List α) (lo hi st : Option Int) : List α := (sliceRange (sliceBounds lo hi st xs.length).1 (sliceBounds lo hi st xs.length).2.1 (sliceBounds lo hi st xs.length).2.2).filterMap fun k => xs[k]?
def Hs {α : Type} (xs : List α) (lo hi st : Option Int) : Option (List α) := if st = some 0 then none else some (BX xs lo hi st)
def HK (K : PySem.W.Frag) (te : TE) (tl th ts : TO) : TE := fun σ H Q => te σ H fun x H1 => tl σ H1 fun lo H2 => th σ H2 fun hi H3 => ts σ H3 fun st H4 => st ≠ some 0 ∧ ∃ a xs, x = .ref a ∧ SqL K H4 a xs ∧ ∀ p, H4 p = none → Q (.ref p) (upd H4 p (.lst (BX xs lo hi st)))
section
variable {H0 : Hp} {ρ : List Slot} {K : PySem.W.Frag} {f fa fb : Bool} {te ta tb : TE} {α : Type}
end
end Kj

namespace Kj
open PySem PySem.SeqAt PySem.W PyProof.Rows L2
section
variable {H0 : Hp} {ρ : List Slot} {K : PySem.W.Frag} {f fa fb : Bool} {te ta tb : TE} {α : Type}
theorem Bi [Enc α] {m : Option α} {T : String} {b : α → Bool} (h : DM H0 ρ te fa (aE K) m) (hk : ∀ x : α, kitB (tyN (en x)) T = some (b x)) : DM H0 ρ (tCB (rIsi K) (tCons te (tCons (tC (.ty T)) tNil))) true (aE K) (m.map b) := fun x e => by
  obtain ⟨y, h1, rfl⟩ := Option.map_eq_some_iff.mp e
  exact i_ (h y h1) (hk y)
end
def b6 {α β γ δ ε ζ η : Type} (g : α → β → γ → δ → ε → ζ → Option η) (ma : Option α) (mb : Option β) (mc : Option γ) (md : Option δ) (me : Option ε) (mf : Option ζ) : Option η := ma.bind fun a => mb.bind fun b => mc.bind fun c => md.bind fun d => me.bind fun e => mf.bind fun f => g a b c d e f
theorem c6 {α β γ δ ε ζ η : Type} {a : α} {b : β} {c : γ} {d : δ} {e : ε} {f : ζ} {g : α → β → γ → δ → ε → ζ → Option η} : b6 g (some a) (some b) (some c) (some d) (some e) (some f) = g a b c d e f := Eq.trans rfl rfl
def sp6 {α β δ ε ζ η γ : Type} (A : α → Abs) (B : β → Abs) (D : δ → Abs) (E : ε → Abs) (G : ζ → Abs) (I : η → Abs) (C : γ → Abs) (F : α → β → δ → ε → ζ → η → Option γ) : Spec := fun As R => ∃ a b d e g i c, As = [A a, B b, D d, E e, G g, I i] ∧ F a b d e g i = some c ∧ R = C c
section
variable {H0 : Hp} {ρ ρ' : List Slot} {K : PySem.W.Frag} {f fa fb fc fd fe ff : Bool} {ta tb tc td te tf : TE} {α β γ δ ε ζ η : Type} {A : α → Abs} {B : β → Abs} {C : γ → Abs} {D : δ → Abs} {E' : ε → Abs} {G : ζ → Abs} {I : η → Abs} {Ex : XK} {ma : Option α} {mb : Option β} {md : Option δ} {me : Option ε} {mg : Option ζ} {mi : Option η}
end
end Kj

namespace Kj
open PySem PySem.SeqAt PySem.W PyProof.Rows L2
def F6 (r r' r'' : R2) (ta tb tc td : TE) : TE := fun σ H Q => ta σ H fun x H1 => tb σ H1 fun y H2 => r x y H2 fun z H3 => ∃ k, z = .bl k ∧
  (if k = true then tc σ H3 fun w' H4 => r' y w' H4 fun z2 H5 => ∃ k2, z2 = .bl k2 ∧ (if k2 = true then td σ H5 fun u' H6 => r'' w' u' H6 Q else Q (.bl false) H5) else Q (.bl false) H3)
section
variable {X : Cx} {a b c d : Expr} {ta tb tc td : TE} {pos : Pos}
end
def Ew {α : Type} (G G' G'' : α → α → Option Bool) (ma mb mc md : Option α) : Option Bool := ma.bind fun i => mb.bind fun j => (G i j).bind fun k => if k = true then mc.bind fun m => (G' j m).bind fun k2 => if k2 = true then md.bind fun n => G'' m n else some false else some false
section
variable {H0 : Hp} {ρ : List Slot} {K : PySem.W.Frag} {f fa fb fc fd : Bool} {ta tb tc td : TE}
end
end Kj

namespace Kj
open PySem L2
def kJ (aI : DealT) (cz : Int) (dF : Int) : Option Unit := jr (S := Unit) 
  (ah (S1 := Unit) (a9 (dC (chM leI ltI (some (0 : Int)) (some dF) (b1 b7 (b2 dZ (some aI) (some cz)))))
    none
    (some (Fl.nx ()))) fun s1 => (some (Fl.nx ())))
def gp (aI : DealT) (ca : (P4 Int Int Int Int)) : Option Unit := jr (S := Unit) 
  (b1 (fun x1 => (b1 (fun _ => (ah (S1 := Unit) (a9 (dC (Ew leI leI ltI (some (0 : Int)) (some x1.c) (some x1.d) (b1 b7 (b2 atI (b2 dZ (some aI) (some x1.a)) (some x1.b)))))
    none
    (some (Fl.nx ()))) fun s2 => (some (Fl.nx ())))) (b3 kJ (some aI) (some x1.a) (some x1.b))))
    (some ca))
def r8 (ac : DealT) (ca : (P4 Int Int Int Int)) : Option (List Int) := ba (S := Unit) (R := (List Int)) 
  (b1 (fun _ => (b1 (fun x1 => (b1 (fun r => some (Fl.rt r)) (b3 cM (b2 atI (b2 atI ((some ac).map DealT.fields) (some x1.a)) (some x1.b)) (bN (some x1.c)) (bN (b2 cN (some x1.d) (some (1 : Int)))))))
    (some ca))) (b2 gp (some ac) (some ca)))
def uF (aI : DealT) (ak : Int) (ca : (P4 Int Int Int Int)) : Option Bool := ba (S := Unit) (R := Bool) 
  (b1 (fun e9 => (b1 (fun _ => (b1 (fun r => some (Fl.rt r)) (orM ((some e9).map Option.isNone) (b2 neM (((some e9).bind id).map P3.a) ((some ca).map P4.a))))) (b2 gp (some aI) (some ca))))
    (b2 cY (some aI) (some ak)))
def pA (aI : DealT) (ak : Int) (ca : (P4 Int Int Int Int)) : Option Bool := ba (S := Unit) (R := Bool) 
  (b1 (fun _ => (b1 (fun r => some (Fl.rt r)) (b2 inM (some ak) (b2 r8 (some aI) (some ca))))) (b2 cA (b1 bA (some aI) ) (some ak)))
def j2 (aj : (List (List (List Int)))) : Option (List (P4 Int Int Int Int)) := ba (S := Unit) (R := (List (P4 Int Int Int Int))) 
  (b1 (fun cQ => (ah (S1 := (List (P4 Int Int Int Int))) (b1 (fun xs => cD (fun x2 s1 => (ah (S1 := (List (P4 Int Int Int Int))) (b1 (fun xs => cD (fun x14 s13 => (ah (S1 := (List (P4 Int Int Int Int))) (b1 (fun xs => cD (fun x20 s19 => (b1 (fun cQ => (some (Fl.nx cQ)))
    (b2 dw (some s19) (b1 (lcM fun x22 => lcE (some true) (b4 mk4 (some x2) (some x14.a) (some x20) (some x22))) (b2 rng2M (some x20) (b1 b7 (some x14.b))))))) xs s13) (b1 rngM (b1 b7 (some x14.b)))) fun s19 => (some (Fl.nx s19)))) xs s1) (b1 gX (b2 atI (some aj) (some x2)))) fun s13 => (some (Fl.nx s13)))) xs cQ) (b1 rngM (some (2 : Int)))) fun s1 => (b1 (fun r => some (Fl.rt r)) (some s1))))
    (b1 aK (some ([] : List (P4 Int Int Int Int)))))
def lj (aj : (List (List (List Int)))) (bK : (P4 Int Int Int Int)) : Option (List Int) := ba (S := Unit) (R := (List Int)) 
  (b1 (fun r => some (Fl.rt r)) (b3 cM (b2 atI (b2 atI (some aj) ((some bK).map P4.a)) ((some bK).map P4.b)) (bN ((some bK).map P4.c)) (bN (b2 cN ((some bK).map P4.d) (some (1 : Int))))))
end Kj

namespace Kj
open PySem PySem.SeqAt PySem.W PyProof.Rows L2
section
variable {G : WK} {H0 : Hp} {ρ ρ' : List Slot} {K : PySem.W.Frag} {f fa fb fc g : Bool} {ta tb tc te : TE} {α β γ δ S S1 R : Type} {A : R → Abs} {B : S → List Slot} {t u w : TS}
end
def Hy {α β γ : Type} (xs : List α) (k : Option γ) (m : Option β) : Option γ := if xs.length < 100000 then b1 (fun _ => k) m else none
section
variable {Gw : WK} {H0 : Hp} {ρ ρ' : List Slot} {K : PySem.W.Frag} {f fa fb fc g : Bool} {ta tb tc te : TE} {α β γ δ S S1 R : Type} {A : R → Abs} {B : S → List Slot} {t u w : TS}
end
end Kj

namespace Kj
open PySem L2
def hO (ac : DealT) (bL : (List Int)) : Option (List (P4 Int Int Int Int)) := ba (S := Unit) (R := (List (P4 Int Int Int Int))) 
  (b1 (fun oM => (b1 (fun iR => (ah (S1 := (List (P4 Int Int Int Int))) (b1 (fun xs => cD (fun x2 s1 => (ah (S1 := (List (P4 Int Int Int Int))) (b1 (fun xs => cD (fun x10 s9 => (b1 (fun e_ => (ah (S1 := (List (P4 Int Int Int Int))) (a9 ((some e_).map fun xs => !xs.isEmpty)
    (b1 (fun x => kU s9 x fun iR => (some (Fl.nx iR))) (b4 mk4 (some x2.a) (some x10.a) (b2 atI (some e_) (some (0 : Int))) (b2 atI (some e_) (b1 jY (some (1 : Int))))))
    (some (Fl.nx s9))) fun s14 => (some (Fl.nx s14))))
    (b1 (lcM fun x13 => lcE (b2 inM (some x13.b) (some oM)) (some x13.a)) (b1 gX (some x10.b))))) xs s1) (b1 gX (some x2.b))) fun s9 => (some (Fl.nx s9)))) xs iR) (b1 gX ((some ac).map DealT.fields))) fun s1 => (b1 (fun r => some (Fl.rt r)) (some s1)))) (some ([] : (List (P4 Int Int Int Int))))))
    (b2 i6 ((some ac).map DealT.source) (some bL)))
def tO (aj : (List (List (List Int)))) (bz : Int) : Option (Option (P3 Int Int Int)) := ba (S := Unit) (R := (Option (P3 Int Int Int))) 
  (ah (S1 := Unit) (b1 (fun xs => cD (fun x2 s1 => (ah (S1 := Unit) (b1 (fun xs => cD (fun x8 s7 => (ah (S1 := Unit) (a9 (b2 inM (some bz) (b2 atI (b2 atI (some aj) (some x2)) (some x8)))
    (b1 (fun r => some (Fl.rt r)) ((b3 mk3 (some x2) (some x8) (b2 C7 (b2 atI (b2 atI (some aj) (some x2)) (some x8)) (some bz))).map some))
    (some (Fl.nx ()))) fun s10 => (some (Fl.nx ())))) xs ()) (b1 rngM (b1 b7 (b2 atI (some aj) (some x2))))) fun s7 => (some (Fl.nx ())))) xs ()) (b1 rngM (some (2 : Int)))) fun s1 => (b1 (fun r => some (Fl.rt r)) (some (none : (Option (P3 Int Int Int))))))
def nQ (aj : (List (List (List Int)))) (bW : (List Int)) : Option (List (P4 Int Int Int Int)) := ba (S := Unit) (R := (List (P4 Int Int Int Int))) 
  (b1 (fun cQ => (ah (S1 := (List (P4 Int Int Int Int))) (b1 (fun xs => cD (fun x2 s1 => (ah (S1 := (List (P4 Int Int Int Int))) (b1 (fun xs => cD (fun x10 s9 => (b1 (fun jP => (ah (S1 := (List (P4 Int Int Int Int))) (a9 (b2 neM (some jP) (b1 aK (some ([] : List Int))))
    (b1 (fun x => kU s9 x fun cQ => (some (Fl.nx cQ))) (b4 mk4 (some x2) (some x10.a) (b2 atI (some jP) (some (0 : Int))) (b2 atI (some jP) (b1 jY (some (1 : Int))))))
    (some (Fl.nx s9))) fun s14 => (some (Fl.nx s14))))
    (b1 (lcM fun x13 => lcE (b2 inM (b2 atI (some x10.b) (some x13)) (some bW)) (some x13)) (b1 rngM (b1 b7 (some x10.b)))))) xs s1) (b1 gX (b2 atI (some aj) (some x2)))) fun s9 => (some (Fl.nx s9)))) xs cQ) (b1 rngM (some (2 : Int)))) fun s1 => (b1 (fun r => some (Fl.rt r)) (some s1)))) (some ([] : (List (P4 Int Int Int Int)))))
end Kj

namespace Kj
open PySem PySem.SeqAt PySem.W PyProof.Rows L2
def F2 {α : Type} [Enc α] (K : PySem.W.Frag) (x : Option (List α)) : Abs := match x with | none => aD K .none | some xs => aEo K xs
def Ik {α β : Type} (kN : Option β) (kS : α → Option β) (o : Option α) : Option β := match o with | none => kN | some x => kS x
def IL (K : PySem.W.Frag) (H0 : Hp) (ρ : List Slot) (t : TE) {α : Type} [Enc α] (m : Option (Option (List α))) : Prop :=
  (m = some none → DE H0 ρ t true (aD K .none)) ∧ ∀ xs, m = some (some xs) → DMo K H0 ρ t (some xs)
section
variable {Gw : WK} {H0 : Hp} {ρ ρ' : List Slot} {K : PySem.W.Frag} {f fa fb fc g : Bool} {ta tb tc te : TE} {α β γ δ S S1 R : Type} {A : R → Abs} {B : S → List Slot} {t u w : TS} {Ax : α → Abs} {Bx : β → Abs} {Dx : δ → Abs} {ma : Option α} {mb : Option β} {md : Option δ} {Ex : XK}
end
end Kj

namespace Kj
open PySem PySem.SeqAt PySem.W PyProof.Rows L2
def Bk (i j : Int) : Option Int := if j ≠ 0 ∧ j.natAbs.log2 < 9000 then some (i.fdiv j) else none
def w7 (i : Int) : Option Int := some (if i < 0 then -i else i)
section
variable {G : WK} {H0 : Hp} {ρ ρ' : List Slot} {K : PySem.W.Frag} {f fa fb fc g : Bool} {ta tb tc te : TE} {α β γ δ S S1 R : Type} {A : R → Abs} {B : S → List Slot} {t u w : TS} {mi mj : Option Int}
end
end Kj
namespace He
open PySem PySem.Spec PyProof.Rows L2
end He

namespace Kj
open PySem L2
def nA (fm : Int) (bF : Int) : Option Int := ba (S := Unit) (R := Int) 
  (ah (S1 := Int × Int) (gZ (fun s1 => (b2 gtI (some s1.2) (some (0 : Int)))) (fun s1 => (b2 (fun fm bF => (some (Fl.nx (fm, bF)))) (some s1.2) (b2 bJ (some s1.1) (some s1.2)))) fuelN (fm, bF)) fun s1 => (b1 (fun r => some (Fl.rt r)) (some s1.1)))
def uB (BR : Int) (lZ : Int) : Option (P2 Int Int) := ba (S := Unit) (R := (P2 Int Int)) 
  (ah (S1 := Unit) (a9 (b2 eqM (some lZ) (some (0 : Int)))
    none
    (some (Fl.nx ()))) fun s1 => (b1 (fun kZ => (ah (S1 := Int) (a9 (b2 ltI (some lZ) (some (0 : Int)))
    (b1 (fun kZ => (some (Fl.nx kZ)))
    (b1 jY (some kZ)))
    (some (Fl.nx kZ))) fun s2 => (b1 (fun r => some (Fl.rt r)) (b2 mk2 (b2 Bk (some BR) (some s2)) (b2 Bk (some lZ) (some s2))))))
    (b2 nA (b1 w7 (some BR)) (b1 w7 (some lZ)))))
def uA (fm : (P2 Int Int)) (bF : (P2 Int Int)) : Option (P2 Int Int) := ba (S := Unit) (R := (P2 Int Int)) 
  (b1 (fun r => some (Fl.rt r)) (b2 uB (b2 cN (b2 fE ((some fm).map P2.a) ((some bF).map P2.b)) (b2 fE ((some bF).map P2.a) ((some fm).map P2.b))) (b2 fE ((some fm).map P2.b) ((some bF).map P2.b))))
def kH (bv : BookT) (a_ : (List Int)) (ak : Int) : Option Unit := jr (S := Unit) 
  (b1 (fun _ => (ah (S1 := Unit) (a9 (b2 jW (some ak) (b2 i6 (some bv) (some a_)))
    none
    (some (Fl.nx ()))) fun s1 => (some (Fl.nx ())))) (b2 cA (some bv) (some ak)))
def oa (fT : (List Int)) : Option (P2 Int Int) := ba (S := Unit) (R := (P2 Int Int)) 
  (b1 (fun r => some (Fl.rt r)) (b2 uB (some (1 : Int)) (b2 cN (b1 b7 (some fT)) (some (1 : Int)))))
def nP (kW : (List Int)) : Option (P2 Int Int) := ba (S := Unit) (R := (P2 Int Int)) 
  (b1 (fun jO => (ah (S1 := (P2 Int Int)) (b1 (fun xs => cD (fun x2 s1 => (b1 (fun xq => (b1 (fun jO => (some (Fl.nx jO)))
    (b2 uA (some s1) (b2 uB (some xq) (b2 cN (some xq) (some (1 : Int)))))))
    (b1 b7 (b1 (lcM fun x4 => lcE (b2 geI (some x4) (some x2)) (some x4)) (some kW))))) xs jO) (b1 rngM (b2 cN (b2 mxD (some kW) (b1 jY (some (1 : Int)))) (some (1 : Int))))) fun s1 => (b1 (fun r => some (Fl.rt r)) (some s1))))
    (some (⟨0, 1⟩ : P2 Int Int)))
def pj (bv : BookT) (ak : Int) (fT : (List Int)) : Option (List Int) := ba (S := Unit) (R := (List Int)) 
  (b1 (fun r => some (Fl.rt r)) (b1 (lcM fun x1 => lcE (some true) (b3 jF (some bv) (some ak) (some x1))) (some fT)))
def AS (bv : BookT) (a_ : (List Int)) (ak : Int) (cg : Int) : Option (P2 Int Int) := ba (S := Unit) (R := (P2 Int Int)) 
  (b1 (fun _ => (b1 (fun r => some (Fl.rt r)) (b1 oa (b4 kE (some bv) (some a_) (some ak) (some cg))))) (b3 kH (some bv) (some a_) (some ak)))
def yF (bv : BookT) (a_ : (List Int)) (ak : Int) : Option (P2 Int Int) := ba (S := Unit) (R := (P2 Int Int)) 
  (b1 (fun _ => (b1 (fun r => some (Fl.rt r)) (b1 nP (b3 pj (some bv) (some ak) (b4 kE (some bv) (some a_) (some ak) (some (0 : Int))))))) (b3 kH (some bv) (some a_) (some ak)))
def qw (cX : Int) (cm : Int) : Option Int := ba (S := Unit) (R := Int) 
  (b1 (fun cX => (b1 (fun cm => (ah (S1 := Int × Int) (gZ (fun s1 => (b2 neM (some s1.2) (some (0 : Int)))) (fun s1 => (b2 (fun cX cm => (some (Fl.nx (cX, cm)))) (some s1.2) (b2 bJ (some s1.1) (some s1.2)))) fuelN (cX, cm)) fun s1 => (b1 (fun r => some (Fl.rt r)) (some s1.1))))
    (b1 w7 (some cm))))
    (b1 w7 (some cX)))
def uD (qI : Int) (jS : Int) : Option (P2 Int Int) := ba (S := Unit) (R := (P2 Int Int)) 
  (b1 (fun lX => (ah (S1 := Int) (a9 (b2 ltI (some jS) (some (0 : Int)))
    (b1 (fun lX => (some (Fl.nx lX)))
    (b1 jY (some lX)))
    (some (Fl.nx lX))) fun s1 => (b1 (fun r => some (Fl.rt r)) (b2 mk2 (b2 Bk (some qI) (some s1)) (b2 Bk (some jS) (some s1))))))
    (b2 qw (some qI) (some jS)))
def EI (cX : (P2 Int Int)) (cm : (P2 Int Int)) : Option (P2 Int Int) := ba (S := Unit) (R := (P2 Int Int)) 
  (b1 (fun r => some (Fl.rt r)) (b2 uD (b2 cN (b2 fE ((some cX).map P2.a) ((some cm).map P2.b)) (b2 fE ((some cm).map P2.a) ((some cX).map P2.b))) (b2 fE ((some cX).map P2.b) ((some cm).map P2.b))))
def Dn (ci : Int) (aJ : (List Int)) : Option (List Int) := ba (S := Unit) (R := (List Int)) 
  (b1 (fun r => some (Fl.rt r)) (b1 (lcM fun x1 => lcE (b2 inM (some x1) (some aJ)) (some x1)) (b1 rngM (some ci))))
end Kj

namespace Kj
open PySem PySem.SeqAt PySem.W PyProof.Rows L2
structure Tp (α : Type) where
  items : List α
  deriving DecidableEq
instance {α : Type} [Enc α] : Enc (Tp α) := ⟨fun x => .tuple (x.items.map en), fun x => by simp only [PyData.plain]; exact iO x.items, Enc.dep α + 1, fun x => by have := jL x.items; simp only [PyData.depth]; omega, fun x y => by
  simp only [PyData.eqv]
  rw [mI x.items y.items]
  cases x; cases y
  simp⟩
instance {α : Type} [Enc α] : EncN (Tp α) := ⟨fun x => ⟨by show PyData.eqv .none (.tuple _) = false; simp [PyData.eqv], by show PyData.eqv (.tuple _) .none = false; simp [PyData.eqv], rfl⟩⟩
def oU {α : Type} (xs : List α) : Option (Tp α) := some ⟨xs⟩
def kC {α : Type} (x : Tp α) : Option (List α) := some x.items
def yh {α : Type} (x : Tp α) : Option Int := some (x.items.length : Int)
theorem t5 {X : Cx} {K : PySem.W.Frag} (h : X.K = K) : CallR X (.type "tuple") (fun xs H Q => ∃ p ys, xs = [.ref p] ∧ ((SqL K H p ys ∧ ∀ l, H l = none → Q (.ref l) (upd H l (.tup ys))) ∨ (SqT K H p ys ∧ Q (.ref p) H))) := by subst h; exact call_tuple_of
section
variable {H0 : Hp} {ρ : List Slot} {K : PySem.W.Frag} {f fa fb : Bool} {te ta tb : TE} {α : Type} {mj : Option Int}
end
end Kj

namespace Kj
open PySem L2
def j8 (aI : DealT) (a_ : (List Int)) (dX : (Tp Str)) : Option (List Int) := ba (S := Unit) (R := (List Int)) 
  (b1 (fun r => some (Fl.rt r)) (b3 jG (b1 bA (some aI) ) (some a_) (b1 kC (some dX))))
def uE (aI : DealT) (ca : (P4 Int Int Int Int)) : Option Bool := ba (S := Unit) (R := Bool) 
  (ah (S1 := Unit) ((b1 (fun _ => (some (Fl.nx ()))) (b2 gp (some aI) (some ca)))) fun s1 => (b1 (fun r => some (Fl.rt r)) (some true)))
def mD (aI : DealT) (a_ : (List Int)) (lA : (List (P2 (Tp Str) (P4 Int Int Int Int)))) : Option Unit := jr (S := Unit) 
  (b1 (fun _ => (ah (S1 := Unit) (b1 (fun xs => cD (fun x2 s1 => (ah (S1 := Unit) (a9 (orM (dC ((b3 j8 (some aI) (some a_) (some x2.b.a)).map fun xs => !xs.isEmpty)) (dC (b2 uE (some aI) (some x2.b.b))))
    none
    (some (Fl.nx ()))) fun s4 => (some (Fl.nx ())))) xs ()) (b1 gX (some lA))) fun s1 => (some (Fl.nx ())))) (b2 i6 (b1 bA (some aI) ) (some a_)))
def FB (aI : DealT) (a_ : (List Int)) (lA : (List (P2 (Tp Str) (P4 Int Int Int Int)))) : Option (Option (P2 Int Int)) := ba (S := Unit) (R := (Option (P2 Int Int))) 
  (b1 (fun _ => (ah (S1 := Unit) (b1 (fun xs => cD (fun x2 s1 => (b1 (fun gP => (ah (S1 := Unit) (a9 ((some gP).map fun xs => !xs.isEmpty)
    (b1 (fun r => some (Fl.rt r)) ((b2 mk2 (some x2.a) (b2 atI (some gP) (some (0 : Int)))).map some))
    (some (Fl.nx ()))) fun s4 => (some (Fl.nx ()))))
    (b3 iZ (some aI) (b3 j8 (some aI) (some a_) (some x2.b.a)) ((some x2.b.b).map P4.a)))) xs ()) (b1 gX (some lA))) fun s1 => (b1 (fun r => some (Fl.rt r)) (some (none : (Option (P2 Int Int))))))) (b3 mD (some aI) (some a_) (some lA)))
def kG (aa : (List (List Str))) (aJ : (List Int)) (fV : (List Str)) : Option (List Int) := ba (S := Unit) (R := (List Int)) 
  (b1 (fun bc => (b1 (fun r => some (Fl.rt r)) (b1 (lcM fun x1 => lcE (fG (b2 inM (some x1) (some aJ)) (b2 eqM (b3 cM (b2 atI (some aa) (some x1)) ce (bN (some bc))) (some fV))) (some x1)) (b1 rngM (b1 b7 (some aa))))))
    (b1 b7 (some fV)))
def nv (aa : (List (List Str))) (aJ : (List Int)) (bd : Int) : Option Int := ba (S := Unit) (R := Int) 
  (ah (S1 := Unit) (a9 (fG (b2 neM (some aJ) (b1 aK (some ([] : List Int)))) (b2 gtI (b2 bJ (some bd) (some (4 : Int))) (some (0 : Int))))
    (b1 (fun r => some (Fl.rt r)) (b2 atI (some aJ) (b2 bJ (b2 hW (some bd) (some (4 : Int))) (b1 b7 (some aJ)))))
    (some (Fl.nx ()))) fun s1 => (b1 (fun r => some (Fl.rt r)) (b2 bJ (b2 hW (some bd) (some (4 : Int))) (b1 b7 (some aa)))))
def j7 (aj : (List (List (List Int)))) (bK : (P4 Int Int Int Int)) : Option Str := ba (S := Unit) (R := Str) 
  (ah (S1 := Unit) (a9 (orM (dC (chM leI leI (some (0 : Int)) ((some bK).map P4.a) (some (1 : Int)))) (dC (chM leI ltI (some (0 : Int)) ((some bK).map P4.b) (b1 b7 (b2 atI (some aj) ((some bK).map P4.a))))))
    (b1 (fun r => some (Fl.rt r)) (some ("NoField" : Str)))
    (some (Fl.nx ()))) fun s1 => (ah (S1 := Unit) (a9 (dC (Ew leI leI ltI (some (0 : Int)) ((some bK).map P4.c) ((some bK).map P4.d) (b1 b7 (b2 atI (b2 atI (some aj) ((some bK).map P4.a)) ((some bK).map P4.b)))))
    (b1 (fun r => some (Fl.rt r)) (some ("NoCard" : Str)))
    (some (Fl.nx ()))) fun s2 => (b1 (fun r => some (Fl.rt r)) (some ("" : Str)))))
def qv (aa : (List (List Str))) (aj : (List (List (List Int)))) (aJ : (List Int)) (af : (List Int)) (fI : Bool) : Option (Option (P2 (Tp Str) (P4 Int Int Int Int))) := ba (S := Unit) (R := (Option (P2 (Tp Str) (P4 Int Int Int Int)))) 
  (b1 (fun bz => (b1 (fun bc => (b1 (fun bW => (b1 (fun dy => (ah (S1 := Int × (List (P4 Int Int Int Int))) (a9 (fG (some fI) (b2 geI (some dy) (some (0 : Int))))
    (b1 (fun bc => (b1 (fun bW => (some (Fl.nx (bc, bW))))
    (b1 (lcM fun x3 => lcE (b2 eqM ((some x3).map P4.a) (some dy)) (some x3)) (some bW))))
    (b2 Am (some bc) (b4 mx (some aa) (some aj) (some aJ) (some bz))))
    (some (Fl.nx (bc, bW)))) fun s2 => (ah (S1 := Unit) (a9 (orM (fG (some fI) (b2 ltI (some dy) (some (0 : Int)))) (b2 eqM (some s2.2) (b1 aK (some ([] : List (P4 Int Int Int Int))))))
    (b1 (fun r => some (Fl.rt r)) (some (none : (Option (P2 (Tp Str) (P4 Int Int Int Int))))))
    (some (Fl.nx ()))) fun s4 => (b1 (fun bK => (b1 (fun kh => (ah (S1 := (P4 Int Int Int Int)) (a9 (fG (b2 gtI (b2 bJ (b2 atI (some af) (some (3 : Int))) (some (3 : Int))) (some (0 : Int))) (b2 neM (some kh) (b1 aK (some ([] : List (P4 Int Int Int Int))))))
    (b1 (fun bK => (some (Fl.nx bK)))
    (b2 atI (some kh) (b2 bJ (b2 atI (some af) (some (2 : Int))) (b1 b7 (some kh)))))
    (some (Fl.nx bK))) fun s5 => (b1 (fun r => some (Fl.rt r)) ((b2 mk2 (b1 oU (b3 cM (b2 atI (some aa) (some bz)) ce (bN (some s2.1)))) (some s5)).map some))))
    (b2 nQ (some aj) (b3 kG (some aa) (some aJ) (b3 cM (b2 atI (some aa) (some bz)) ce (bN (some s2.1)))))))
    (b2 atI (some s2.2) (b2 bJ (b2 atI (some af) (some (2 : Int))) (b1 b7 (some s2.2))))))))
    (b2 eW (some aj) (some bz))))
    (b1 j2 (some aj))))
    (b2 bJ (b2 atI (some af) (some (1 : Int))) (b2 cN (b1 b7 (b2 atI (some aa) (some bz))) (some (1 : Int))))))
    (b3 nv (some aa) (some aJ) (b2 atI (some af) (some (0 : Int)))))
def uC (aa : (List (List Str))) (aj : (List (List (List Int)))) (aJ : (List Int)) (af : (List Int)) (fI : Bool) : Option (List (P2 (Tp Str) (P4 Int Int Int Int))) := ba (S := Unit) (R := (List (P2 (Tp Str) (P4 Int Int Int Int)))) 
  (b1 (fun bI => (ah (S1 := (List (P2 (Tp Str) (P4 Int Int Int Int)))) (b1 (fun xs => cD (fun x2 s1 => (b1 (fun iT => (ah (S1 := (List (P2 (Tp Str) (P4 Int Int Int Int)))) (a9 ((some iT).map Option.isSome)
    (b1 (fun x => kU s1 x fun bI => (some (Fl.nx bI))) ((some iT).bind id))
    (some (Fl.nx s1))) fun s4 => (some (Fl.nx s4))))
    (b5 qv (some aa) (some aj) (some aJ) (b3 cM (some af) (bN (b2 cN (some (2 : Int)) (b2 fE (some (4 : Int)) (some x2)))) ce) (some fI)))) xs bI) (b1 rngM (b2 bJ (b2 atI (some af) (some (0 : Int))) (some (8 : Int))))) fun s1 => (ah (S1 := (List (P2 (Tp Str) (P4 Int Int Int Int)))) (a9 (fG (b2 neM (some s1) (b1 aK (some ([] : List (P2 (Tp Str) (P4 Int Int Int Int)))))) (b2 eqM (b2 bJ (b2 atI (some af) (some (1 : Int))) (some (5 : Int))) (some (4 : Int))))
    (b1 (fun x => kU s1 x fun bI => (some (Fl.nx bI))) (b2 atI (some s1) (b2 bJ (b2 hW (b2 atI (some af) (some (1 : Int))) (some (5 : Int))) (b1 b7 (some s1)))))
    (some (Fl.nx s1))) fun s5 => (b1 (fun r => some (Fl.rt r)) (some s5))))) (some ([] : (List (P2 (Tp Str) (P4 Int Int Int Int))))))
def kF (aa : (List (List Str))) (aj : (List (List (List Int)))) (aJ : (List Int)) (bI : (List (P2 (Tp Str) (P4 Int Int Int Int)))) : Option Int := ba (S := Unit) (R := Int) 
  (ah (S1 := Unit) (b1 (fun xs => cD (fun x2 s1 => (ah (S1 := Unit) (a9 (orM (b2 eqM (b3 kG (some aa) (some aJ) (b1 kC (some x2.b.a))) (b1 aK (some ([] : List Int)))) (b2 neM (b2 j7 (some aj) (some x2.b.b)) (some ("" : Str))))
    (b1 (fun r => some (Fl.rt r)) (some x2.a))
    (some (Fl.nx ()))) fun s4 => (some (Fl.nx ())))) xs ()) (b1 gX (some bI))) fun s1 => (b1 (fun r => some (Fl.rt r)) (b1 jY (some (1 : Int)))))
def xc (aa : (List (List Str))) (aj : (List (List (List Int)))) (aJ : (List Int)) (af : (List Int)) (fI : Bool) : Option (List (P2 (Tp Str) (P4 Int Int Int Int))) := ba (S := Unit) (R := (List (P2 (Tp Str) (P4 Int Int Int Int)))) 
  (b1 (fun bI => (b1 (fun r => some (Fl.rt r)) (b1 (lcM fun x1 => lcE (b2 ltI (b4 kF (some aa) (some aj) (some aJ) (b1 aK (b2 ar (some x1) (some ([] : List (P2 (Tp Str) (P4 Int Int Int Int))))))) (some (0 : Int))) (some x1)) (some bI))))
    (b5 uC (some aa) (some aj) (some aJ) (some af) (some fI)))
def rV (aa : (List (List Str))) (aj : (List (List (List Int)))) (aJ : (List Int)) (bI : (List (P2 (Tp Str) (P4 Int Int Int Int)))) : Option (Option (P2 Int Int)) := ba (S := Unit) (R := (Option (P2 Int Int))) 
  (ah (S1 := Unit) (b1 (fun xs => cD (fun x2 s1 => (ah (S1 := Unit) (b1 (fun xs => cD (fun x8 s7 => (ah (S1 := Unit) (a9 (b2 neM (b2 eW (some aj) (some x8)) ((some x2.b.b).map P4.a))
    (b1 (fun r => some (Fl.rt r)) ((b2 mk2 (some x2.a) (some x8)).map some))
    (some (Fl.nx ()))) fun s10 => (some (Fl.nx ())))) xs ()) (b3 kG (some aa) (some aJ) (b1 kC (some x2.b.a)))) fun s7 => (some (Fl.nx ())))) xs ()) (b1 gX (some bI))) fun s1 => (b1 (fun r => some (Fl.rt r)) (some (none : (Option (P2 Int Int))))))
end Kj

namespace Kj
open PySem PySem.SeqAt PySem.W PyProof.Rows L2
section
variable {H0 : Hp} {ρ : List Slot} {K : PySem.W.Frag} {α : Type}
end
end Kj

namespace Kj
open PySem L2
def l7 (K : PySem.W.Frag) {R : Type} (A : R → Abs) : Rs R → Out
  | .ok r => .ret (A r)
  | .ex e => .exc (xP K e)
section
variable {α β γ δ ε ζ η : Type}
def sx1 (K : PySem.W.Frag) (A : α → Abs) (R : γ → Abs) (F : α → Option (Rs γ)) : jo := fun As O => ∃ a o, As = [A a] ∧ F a = some o ∧ O = l7 K R o
def sx2 (K : PySem.W.Frag) (A : α → Abs) (B : β → Abs) (R : γ → Abs) (F : α → β → Option (Rs γ)) : jo := fun As O => ∃ a b o, As = [A a, B b] ∧ F a b = some o ∧ O = l7 K R o
def sx3 (K : PySem.W.Frag) (A : α → Abs) (B : β → Abs) (D : δ → Abs) (R : γ → Abs) (F : α → β → δ → Option (Rs γ)) : jo := fun As O => ∃ a b d o, As = [A a, B b, D d] ∧ F a b d = some o ∧ O = l7 K R o
def sx4 (K : PySem.W.Frag) (A : α → Abs) (B : β → Abs) (D : δ → Abs) (E : ε → Abs) (R : γ → Abs) (F : α → β → δ → ε → Option (Rs γ)) : jo := fun As O => ∃ a b d e o, As = [A a, B b, D d, E e] ∧ F a b d e = some o ∧ O = l7 K R o
def sx5 (K : PySem.W.Frag) (A : α → Abs) (B : β → Abs) (D : δ → Abs) (E : ε → Abs) (G : ζ → Abs) (R : γ → Abs) (F : α → β → δ → ε → ζ → Option (Rs γ)) : jo := fun As O => ∃ a b d e g o, As = [A a, B b, D d, E e, G g] ∧ F a b d e g = some o ∧ O = l7 K R o
end
def DMx (W : WX) (K : PySem.W.Frag) (H0 : Hp) (ρ : List Slot) (t : TE) (f : Bool) {α : Type} (A : α → Abs) (m : Option (Rs α)) : Prop := (∀ x, m = some (.ok x) → DE H0 ρ t f (A x)) ∧ ∀ e, m = some (.ex e) → RE W H0 ρ t (xP K e)
def RT (W : WX) (H0 : Hp) (ρ : List Slot) (t : TT) (X : XA) : Prop := ∀ (σ : St) (H Hr : Hp) (Q : Bool → Hp → Prop), EnvOk H0 σ ρ H Hr → (∀ cls d H' Hr', Ext H Hr H' Hr' → X cls d H' → W cls d σ H') → t σ H Q
def RI (W : WX) (H0 : Hp) (ρ : List Slot) (t : TI) (X : XA) : Prop := ∀ (σ : St) (H Hr : Hp) (Q : It → Hp → Prop), EnvOk H0 σ ρ H Hr → (∀ cls d H' Hr', Ext H Hr H' Hr' → X cls d H' → W cls d σ H') → t σ H Q
def DTx (W : WX) (K : PySem.W.Frag) (H0 : Hp) (ρ : List Slot) (t : TT) (m : Option (Rs Bool)) : Prop := (∀ b, m = some (.ok b) → DT K H0 ρ t b) ∧ ∀ e, m = some (.ex e) → RT W H0 ρ t (xP K e)
def DWx (W : WX) (K : PySem.W.Frag) (H0 : Hp) (ρ : List Slot) (wi : TI) (f : Bool) {α : Type} (A : α → Abs) (m : Option (Rs (List α))) : Prop := (∀ xs, m = some (.ok xs) → DW H0 ρ wi xs.length f (fun i => match xs[i]? with | some x => A x | none => aNo)) ∧ ∀ e, m = some (.ex e) → RI W H0 ρ wi (xP K e)
def rsM {α β : Type} (g : Option α → Option β) (m : Option (Rs α)) : Option (Rs β) := m.bind fun r => match r with | .ok x => (g (some x)).map .ok | .ex e => some (.ex e)
def bX {α S R : Type} (k : α → Option (Fl S R)) (m : Option (Rs α)) : Option (Fl S R) := m.bind fun r => match r with | .ok x => k x | .ex e => some (.ex e)
section
variable {α β : Type} {x : α} {e : Exn}
@[simp] theorem rsM_ok {g : Option α → Option β} : rsM g (some (.ok x)) = (g (some x)).map .ok := rfl
@[simp] theorem rsM_ex {g : Option α → Option β} : rsM g (some (.ex e)) = some (.ex e) := rfl
@[simp] theorem bX_ok {S R : Type} {k : α → Option (Fl S R)} : bX k (some (.ok x)) = k x := rfl
@[simp] theorem bX_ex {S R : Type} {k : α → Option (Fl S R)} : bX k (some (.ex e)) = some (.ex e) := rfl
end
section
variable {W : WX} {H0 : Hp} {ρ ρ' : List Slot} {K : PySem.W.Frag} {f f' fa fb fc fd fe : Bool} {te t' ta tb tc td : TE} {X : XA} {α β γ δ ε ζ : Type} {A : α → Abs} {B : β → Abs} {C : γ → Abs} {D : δ → Abs} {E' : ε → Abs} {G : ζ → Abs}
def rsN (m : Option (Rs Bool)) : Option (Rs Bool) := m.map fun r => match r with | .ok b => .ok (!b) | .ex e => .ex e
def GQ (g g' : Int → Int → Bool) (ma mb : Option Int) (mc : Option (Rs Int)) : Option (Rs Bool) := ma.bind fun i => mb.bind fun j => if g i j = true then mc.map (fun r => match r with | .ok k => .ok (g' j k) | .ex e => .ex e) else some (.ok false)
theorem FG {S : jo} {As : List Abs} {t : TA} {m : Option (Rs γ)} (bo : Bo H0 ρ ρ') (hs : ∀ r, m = some r → ∃ As, DA H0 ρ' t false As ∧ S As (l7 K C r)) : DMx W K H0 ρ (tCallS (spX S) (WE W) t) true C m :=
  ⟨fun x e => by
    obtain ⟨As, ha, s⟩ := hs _ e
    exact zp bo ha s, fun x e => by
    obtain ⟨As, ha, s⟩ := hs _ e
    exact xI bo ha s⟩
theorem yR {F : α → Option (Rs γ)} {ma : Option α} (bo : Bo H0 ρ ρ') (h1 : DM H0 ρ' ta fa A ma) : DMx W K H0 ρ (tCallS (spX (sx1 K A C F)) (WE W) (tCons ta tNil)) true C (b1 F ma) := FG (As := []) bo fun r e => by
  obtain ⟨a, e1, h⟩ := cC e
  exact ⟨_, fS (h1 a e1) ja, a, r, rfl, h, rfl⟩
def ue (C : Addr) (m : Str) (sp : Sp) (E : St → XK) (ta : TE) (t : TA) : TE := fun σ H Q => ta σ H fun x H1 => ∃ a dx fs, x = .ref a ∧ H1 a = some (.ins C dx fs) ∧ fs.lookup m = none ∧ t σ H1 fun vs H2 => sp (x :: vs) H2 Q (E σ)
end
section
variable {P : Program} {w : World} {K : PySem.W.Frag} {mg : Str → Option Value} {base : Heap}
def oJ (P : Program) (w : World) (K : PySem.W.Frag) (mg : Str → Option Value) (base : Heap) (C : Addr) (m : Str) (k : Nat) (ps : List Str) (sp : Sp) : Prop :=
  ∃ f fd, Cls K C ∧ Meth K C m f ∧ Binds K fd ps [] ∧ FnOk P w K mg base (L2.CX P w) k f fd ps sp
theorem Ak {x qual m : Str} {C : Addr} {st : Stmt} {f : Addr} {fd : FuncData} {k : Nat} {ps : List Str} {sp : Sp} (F : FnP K x qual st f fd) (c : Cls K C) (hm : Meth K C m f) (G : FnOk P w K mg base (L2.CX P w) k f fd ps sp)
    (h : ∀ (kV doc pm : Value) (an : Option Addr) (cdv ct : Value) (us : List Value), us.length = ps.length → bindArgs (PySem.W.fnOf x qual (defArgs st) (defBody st) (defScope st) .none kV doc pm an cdv ct) ⟨us, []⟩ = pure (ps.zip us)) : oJ P w K mg base C m k ps sp :=
  ⟨f, fd, c, hm, F.bindsN h, G⟩
end
section
open PySem.Spec PyProof.Rows
theorem xT {X : Cx} {W : WX} {C : Addr} {k : Nat} {ps : List Str} {sp : Sp} {m : Str} {pos apos : Pos} {o e : Expr} {es : List Expr} {ta : TE} {t : TA} {pl : Sem Bool} (he : PE X o ta) (D : oJ X.prog X.w X.K X.mg X.base C m k ps sp) (hr : Room k X.A) (tk : Takes X W) (ha : PA X (e :: es) t)
    (hst : starEach (e :: es) X.env = (false, eval e X.env) :: starEach es X.env := by rfl) (hpl : (backTo pos (starEach es X.env)).any (·.1) = false := by rfl)
    (ht : eval (.Call (.Attribute o m apos) (e :: es) [] pos) X.env = (do
      let ov ← eval o X.env
      standAt apos.atName
      let (f, first) ← holding [ov] (getMethod ov m pl)
      callWith pos f first (backTo pos (starEach (e :: es) X.env)) (backToKw pos (keywordEach [] X.env))) := by rfl) :
    PE X (.Call (.Attribute o m apos) (e :: es) [] pos) (ue C m sp (WE W) ta t) := by
  obtain ⟨f, fd, c, hm, hb, F⟩ := D
  refine ⟨fun pins s σ H Q I h => ?_⟩
  refine PySem.W.methodCall_KW (pl := pl) (thn (he.run pins s σ H _ I h) fun u s1 ⟨x, H1, I1, rx, a, dx, fs, ex, ea, l, q⟩ => ?_) ht
  subst ex
  obtain rfl : u = Value.ref a := rx
  refine getmeth_ok I1 ea c hm l ?_
  refine PySem.W.callWith_K (first := [.ref a]) (h₀ := X.base) I1.ok.mod.kin hm.kp (thn (ha.run pos pins s1 σ H1 _ I1 q) fun us s2 ⟨vs, H2, I2, r, q2⟩ => ⟨I2.kIn, ?_⟩) hst hpl
  exact run_fnS (us := .ref a :: us) (vs := .ref a :: vs) F hr hb (passAt tk σ) I2 (.cons rfl r) q2
end
end Kj
namespace Kj
open PySem L2
section
variable {W : WX} {H0 : Hp} {ρ ρ' : List Slot} {K : PySem.W.Frag} {f f' fa fb fc fd fe : Bool} {te t' ta tb tc td : TE} {X : XA} {α β γ δ ε : Type} {B : β → Abs} {R : γ → Abs} {D : δ → Abs} {C : Addr} {O : α → List (Str × Abs)} {m : Str}
end
section
variable {G : WK} {H0 : Hp} {ρ ρ' : List Slot} {f : Bool} {te : TE} {α S S1 R : Type} {A : R → Abs} {B : S → List Slot} {t u w : TS} {Ax : α → Abs}
theorem BJ {k : α → Option (Fl S R)} {m : Option (Rs α)} {fl : Fl S R} (h : bX k m = some fl) : (∃ x, m = some (.ok x) ∧ k x = some fl) ∨ ∃ e, m = some (.ex e) ∧ fl = .ex e := by
  obtain ⟨r, h1, h2⟩ := Option.bind_eq_some_iff.mp h
  cases r with
  | ok x => exact .inl ⟨x, h1, h2⟩
  | ex e => cases h2; exact .inr ⟨e, h1, rfl⟩
theorem FH {e : Exn} {N : List Slot → Prop} {Rr : Abs} {F : Ends → V → Hp → St → Prop} (h : RE G.W H0 ρ te (xP G.K e)) (ht : ∀ D σ H, te σ H (fun v H' => F D v H' σ) → t D σ H) : DS ⟨G.W, fun ρ' cls d H => ρ' = ρ ∧ xP G.K e cls d H⟩ H0 ρ t N Rr := fun σ H Hr D E kn kr kx =>
  ht D σ H (h σ H Hr _ E fun cls d H' Hr' x q => kx ρ σ H' Hr' cls d ⟨rfl, q⟩ (E.ext x) x.r)
theorem yX {W : WX} {Z Z' : List Slot → XA} {N : List Slot → Prop} {Rr : Abs} (h : DS ⟨W, Z⟩ H0 ρ t N Rr) (hz : ∀ ρ' cls d H, Z ρ' cls d H → Z' ρ' cls d H) : DS ⟨W, Z'⟩ H0 ρ t N Rr := fun σ H Hr D E kn kr kx => h σ H Hr D E kn kr fun ρ' σ' H' Hr' cls d z E' s => kx ρ' σ' H' Hr' cls d (hz _ _ _ _ z) E' s
theorem zw {x : Str} : DB G H0 ρ (tSeq (fun _ σ H => G.W (.ref (He.ga G.K x)) none σ H) u) A (some (.ex ⟨x, []⟩) : Option (Fl S R)) B := fun fl e => by
  cases e
  exact fun σ H Hr D E kn kr kx => kx ρ σ H Hr _ _ ⟨rfl, rfl⟩ E (Same.refl _)
theorem zt {m : Option (Rs α)} {k : Option (Fl S R)} (h : DMx G.W G.K H0 ρ te f Ax m) (hk : DB G H0 ρ u A k B) : DB G H0 ρ (tSeq (tDrop te) u) A (bX (fun _ => k) m) B := fun fl e => by
  rcases BJ e with ⟨x, h1, h2⟩ | ⟨x, h1, rfl⟩
  · exact mK (vV (h.1 x h1)) (hk fl h2)
  · exact yX (FH (F := fun D v H' σ => u D σ H') (h.2 x h1) fun D σ H q => q) fun _ _ _ _ z => z.2
theorem zx {K : PySem.W.Frag} {W : WX} {m : Option (Fl S Unit)} {o : Rs Unit} (h : DB ⟨W, K⟩ H0 ρ t (aE K) m B) (e : eY m = some o) : DS ⟨W, Fe (l7 K (aE K) o)⟩ H0 ρ t (fun _ => ∀ G, (Aa (l7 K (aE K) o)).p .non G) (Aa (l7 K (aE K) o)) := by
  obtain ⟨fl, h1, h2⟩ := Option.bind_eq_some_iff.mp e
  cases fl with
  | nx s => cases h2; exact gm (pP (h _ h1)) fun r _ G => .non
  | rt r => cases h2; exact gm (h _ h1) fun r ⟨s, e, _⟩ => by cases e
  | ex x => cases h2; exact gm (h _ h1) fun r ⟨s, e, _⟩ => by cases e
end
theorem sa {K : PySem.W.Frag} {l lc : List Str} (h : yL K l lc = true) {n c : Str} (hn : l.contains n = true) (hc : lc.contains c = true) : PySem.W.exmOne K (.ref (He.ga K n)) (.ref (He.ga K c)) = some (iG n c) :=
  of_decide_eq_true (List.all_eq_true.mp (List.all_eq_true.mp h n (List.contains_iff_mem.mp hn)) c (List.contains_iff_mem.mp hc))
def Fv {S R : Type} : List (Str × Option (Fl S R)) → Str → Option (Fl S R)
  | [], _ => none
  | (c, p) :: hs, n => if iG n c = true then p else Fv hs n
def HG {α S R : Type} (l : List Str) (hs : List (Str × Option (Fl S R))) (ok : α → Option (Fl S R)) (m : Option (Rs α)) : Option (Fl S R) := m.bind fun r => match r with | .ok x => ok x | .ex e => if l.contains e.name = true then Fv hs e.name else none
theorem xu {X : Cx} : Takes X (fun _ _ _ _ => False) := fun u s' ⟨_, _, _, _, _, _, _, _, _, _, _, _, _, _, _, _, w⟩ => w.elim
theorem m5 {P : Program} {w : World} {K : PySem.W.Frag} {mg : Str → Option Value} {base : Heap} {N : List Str} {qual : Str} {scope : Scope} {f : Addr} {cd : Value} {A : Around} {outer : List Env} {s : Shared} {H : Hp} {E : XK} : Takes (cxOf (L2.CX P w) P w K mg base N qual scope f cd A outer s H E) (fun cls d _ H => E cls d H) :=
  takes_of (X := cxOf (L2.CX P w) P w K mg base N qual scope f cd A outer s H E) rfl rfl rfl rfl
section
variable {G : WK} {H0 : Hp} {ρ ρ' : List Slot} {f : Bool} {α S S1 R : Type} {A : R → Abs} {B : S → List Slot} {t u w : TS} {Ax : α → Abs} {B1 : S1 → List Slot}
inductive HL (G : WK) (H0 : Hp) (ρ : List Slot) (lc : List Str) {S1 R : Type} (A : R → Abs) (B1 : S1 → List Slot) : List (Value × (Addr → Value → Option Addr → TS)) → List (Str × Option (Fl S1 R)) → Prop
  | nil : HL G H0 ρ lc A B1 [] []
  | cons {c : Str} {tb : TS} {p : Option (Fl S1 R)} {l : List (Value × (Addr → Value → Option Addr → TS))} {hs : List (Str × Option (Fl S1 R))} : lc.contains c = true → DB G H0 ρ tb A p B1 → HL G H0 ρ lc A B1 l hs → HL G H0 ρ lc A B1 ((.ref (He.ga G.K c), fun _ _ _ => tb) :: l) ((c, p) :: hs)
end
end Kj

namespace Kj
open PySem L2
section
variable {H0 : Hp} {ρ : List Slot} {K : PySem.W.Frag} {f fa : Bool} {te : TE}
def CY {α : Type} (x : P4 α α α α) : Option (List α) := some [x.a, x.b, x.c, x.d]
end
theorem lJ {P : Program} {w : World} {K : PySem.W.Frag} {mg : Str → Option Value} {base : Heap} {N : List Str} {qual : Str} {scope : Scope} {f : Addr} {cd : Value} {A : Around} {outer : List Env} {s : Shared} {H : Hp} {E : XK} : PassesOwn (model (cxOf (L2.CX P w) P w K mg base N qual scope f cd A outer s H E).prog (cxOf (L2.CX P w) P w K mg base N qual scope f cd A outer s H E).w) (cxOf (L2.CX P w) P w K mg base N qual scope f cd A outer s H E).A (cxOf (L2.CX P w) P w K mg base N qual scope f cd A outer s H E).env (cxOf (L2.CX P w) P w K mg base N qual scope f cd A outer s H E).xe :=
  passes_of (X := cxOf (L2.CX P w) P w K mg base N qual scope f cd A outer s H E) rfl
def rs2 {α β γ : Type} (g : α → β → Option γ) (m : Option (Rs α)) (m' : Option (Rs β)) : Option (Rs γ) := m.bind fun r => match r with
  | .ex e => some (.ex e)
  | .ok x => m'.bind fun r' => match r' with
    | .ex e => some (.ex e)
    | .ok y => (g x y).map .ok
def rsO {α : Type} (m : Option (Rs α)) : Option α := m.bind fun r => match r with | .ok x => some x | .ex _ => none
def Cs {S R : Type} (c : S → Option (Rs Bool)) (b : S → Option (Fl S R)) (n : Nat) (s0 : S) : Option (Fl S R) := match c s0 with
  | some (.ex e) => some (.ex e)
  | _ => gZ (fun s => rsO (c s)) b n s0
end Kj

namespace Kj
open PySem L2
def eH (bv : BookT) (dQ : Int) : Option (Rs Unit) := eY (S := Unit) 
  (ah (S1 := Unit) (a9 (dC (chM leI ltI (some (0 : Int)) (some dQ) (b1 dh (some bv) )))
    (some (Fl.ex ⟨"NoVerse", []⟩))
    (some (Fl.nx ()))) fun s1 => (some (Fl.nx ())))
def lO (bv : BookT) (jz : (List Int)) : Option (Rs (List Int)) := ig (S := Unit) (R := (List Int)) 
  (ah (S1 := Unit) (b1 (fun xs => cD (fun x2 s1 => (bX (fun _ => (some (Fl.nx ()))) (b2 eH (some bv) (some x2)))) xs ()) (some jz)) fun s1 => (b1 (fun r => some (Fl.rt r)) (b1 oV (some jz))))
def nO (bv : BookT) (a_ : (List Int)) (dR : (List Str)) : Option (Rs (List Int)) := ig (S := Unit) (R := (List Int)) 
  (bX (fun r => some (Fl.rt r)) (rsM (fun mz => (b1 (lcM fun x1 => lcE (b2 eK (some dR) (b2 bM (some bv) (some x1))) (some x1)) mz)) (b2 lO (some bv) (some a_))))
def n_ (cz : Int) : Option (Rs Unit) := eY (S := Unit) 
  (ah (S1 := Unit) (a9 (dC (chM leI leI (some (0 : Int)) (some cz) (some (1 : Int))))
    (some (Fl.ex ⟨"NoField", []⟩))
    (some (Fl.nx ()))) fun s1 => (some (Fl.nx ())))
def lq (ac : DealT) (cz : Int) : Option (Rs (List (List Int))) := ig (S := Unit) (R := (List (List Int))) 
  (bX (fun _ => (b1 (fun r => some (Fl.rt r)) (b1 mA (b2 atI ((some ac).map DealT.fields) (some cz))))) (b1 n_ (some cz)))
def jt (aI : DealT) (cz : Int) (dF : Int) : Option (Rs Unit) := eY (S := Unit) 
  (ah (S1 := Unit) (bX (fun c => a9 (some c)
    (some (Fl.ex ⟨"NoField", []⟩))
    (some (Fl.nx ()))) (rsN (GQ (fun i j => decide (i ≤ j)) (fun i j => decide (i < j)) (some (0 : Int)) (some dF) (rsM (fun mz => (b1 b7 mz)) (b2 lq (some aI) (some cz)))))) fun s1 => (some (Fl.nx ())))
def gy (aI : DealT) (ca : (P4 Int Int Int Int)) : Option (Rs Unit) := eY (S := Unit) 
  (b1 (fun x1 => (bX (fun _ => (ah (S1 := Unit) (a9 (dC (Ew leI leI ltI (some (0 : Int)) (some x1.c) (some x1.d) (b1 b7 (b2 atI (b2 dZ (some aI) (some x1.a)) (some x1.b)))))
    (some (Fl.ex ⟨"NoCard", []⟩))
    (some (Fl.nx ()))) fun s2 => (some (Fl.nx ())))) (b3 jt (some aI) (some x1.a) (some x1.b))))
    (some ca))
def pM (ac : DealT) (ca : (P4 Int Int Int Int)) : Option (Rs (List Int)) := ig (S := Unit) (R := (List Int)) 
  (bX (fun _ => (b1 (fun x1 => (b1 (fun r => some (Fl.rt r)) (b3 cM (b2 atI (b2 atI ((some ac).map DealT.fields) (some x1.a)) (some x1.b)) (bN (some x1.c)) (bN (b2 cN (some x1.d) (some (1 : Int)))))))
    (some ca))) (b2 gy (some ac) (some ca)))
def i9 (ac : DealT) (ak : Int) : Option (Rs (Option (P3 Int Int Int))) := ig (S := Unit) (R := (Option (P3 Int Int Int))) 
  (bX (fun _ => (ah (S1 := Unit) (b1 (fun xs => cD (fun x2 s1 => (ah (S1 := Unit) (b1 (fun xs => cD (fun x8 s7 => (ah (S1 := Unit) (a9 (b2 inM (some ak) (some x8.b))
    (b1 (fun r => some (Fl.rt r)) ((b3 mk3 (some x2.a) (some x8.a) (b2 C7 (some x8.b) (some ak))).map some))
    (some (Fl.nx ()))) fun s10 => (some (Fl.nx ())))) xs ()) (b1 gX (some x2.b))) fun s7 => (some (Fl.nx ())))) xs ()) (b1 gX ((some ac).map DealT.fields))) fun s1 => (b1 (fun r => some (Fl.rt r)) (some (none : (Option (P3 Int Int Int))))))) (b2 eH ((some ac).map DealT.source) (some ak)))
def hM (aI : DealT) (ak : Int) : Option (Rs Int) := ig (S := Unit) (R := Int) 
  (bX (fun e9 => (ah (S1 := Unit) (a9 ((some e9).map Option.isNone)
    (some (Fl.ex ⟨"NoCard", []⟩))
    (some (Fl.nx ()))) fun s1 => (b1 (fun r => some (Fl.rt r)) (((some e9).bind id).map P3.a))))
    (b2 i9 (some aI) (some ak)))
def AR (aI : DealT) (ak : Int) (ca : (P4 Int Int Int Int)) : Option (Rs Bool) := ig (S := Unit) (R := Bool) 
  (bX (fun e9 => (bX (fun _ => (b1 (fun r => some (Fl.rt r)) (orM ((some e9).map Option.isNone) (b2 neM (((some e9).bind id).map P3.a) ((some ca).map P4.a))))) (b2 gy (some aI) (some ca))))
    (b2 i9 (some aI) (some ak)))
def AQ (aI : DealT) (ak : Int) (ca : (P4 Int Int Int Int)) : Option (Rs Bool) := ig (S := Unit) (R := Bool) 
  (bX (fun _ => (bX (fun r => some (Fl.rt r)) (rsM (fun mz => (b2 inM (some ak) mz)) (b2 pM (some aI) (some ca))))) (b2 eH (b1 bA (some aI) ) (some ak)))
def qx (aI : DealT) (a_ : (List Int)) (dR : (List Str)) : Option (Rs (List Int)) := ig (S := Unit) (R := (List Int)) 
  (bX (fun iU => (b1 (fun r => some (Fl.rt r)) (b1 (lcM fun x1 => lcE (dC ((b3 iZ (some aI) (some iU) (some x1)).map fun xs => !xs.isEmpty)) (some x1)) (b1 rngM (some (2 : Int))))))
    (b3 nO (b1 bA (some aI) ) (some a_) (some dR)))
def tM (aI : DealT) (a_ : (List Int)) (dR : (List Str)) (ca : (P4 Int Int Int Int)) : Option (Rs (Option Int)) := ig (S := Unit) (R := (Option Int)) 
  (bX (fun iU => (bX (fun _ => (b1 (fun gP => (b1 (fun r => some (Fl.rt r)) (a9 ((some gP).map fun xs => !xs.isEmpty) ((b2 atI (some gP) (some (0 : Int))).map some) (some (none : (Option Int))))))
    (b3 iZ (some aI) (some iU) ((some ca).map P4.a)))) (b2 gy (some aI) (some ca))))
    (b3 nO (b1 bA (some aI) ) (some a_) (some dR)))
def FA (aI : DealT) (a_ : (List Int)) (dR : (List Str)) : Option (Rs (Option (List (P4 Int Int Int Int)))) := ig (S := Unit) (R := (Option (List (P4 Int Int Int Int)))) 
  (ah (S1 := Unit) (bX (fun c => a9 (some c)
    (b1 (fun r => some (Fl.rt r)) (some (none : (Option (List (P4 Int Int Int Int))))))
    (some (Fl.nx ()))) (rsN (rsM (fun mz => (mz.map fun xs => !xs.isEmpty)) (b3 qx (some aI) (some a_) (some dR))))) fun s1 => (b1 (fun r => some (Fl.rt r)) ((b2 hO (some aI) (b3 jG (b1 bA (some aI) ) (some a_) (some dR))).map some)))
def po (bv : BookT) (a_ : (List Int)) (ak : Int) (cg : Int) : Option (Rs (List Int)) := ig (S := Unit) (R := (List Int)) 
  (bX (fun _ => (bX (fun fT => (b1 (fun r => some (Fl.rt r)) (b1 (lcM fun x3 => lcE (b2 geI (b3 jF (some bv) (some ak) (some x3)) (some cg)) (some x3)) (some fT))))
    (rsM (fun mz => (b1 (lcM fun x1 => lcE (b2 neM (some x1) (some ak)) (some x1)) mz)) (b2 lO (some bv) (some a_))))) (b2 eH (some bv) (some ak)))
def Dh (aI : DealT) (a_ : (List Int)) (ak : Int) : Option (Rs Int) := ig (S := Unit) (R := Int) 
  (b1 (fun bv => (bX (fun fT => (bX (fun cz => (b1 (fun r => some (Fl.rt r)) (b2 mxD (b1 (lcM fun x1 => lcE (some true) (b2 cN (b3 jF (some bv) (some ak) (some x1)) (some (1 : Int)))) (b3 iZ (some aI) (some fT) (some cz))) (some (0 : Int)))))
    (b2 hM (some aI) (some ak))))
    (b4 po (some bv) (some a_) (some ak) (some (0 : Int)))))
    (b1 bA (some aI) ))
def pw (bd : Int) (ci : Int) : Option Int := ba (S := Unit) (R := Int) 
  (b1 (fun r => some (Fl.rt r)) (b2 atI (b1 aK (b2 ar (b1 jY (some (1 : Int))) (b2 ar (some ci) (b2 ar (b2 cN (some ci) (some (1 : Int))) (b2 ar (b2 powI (some (10 : Int)) (some (20 : Int))) (b2 ar (b1 jY (b2 powI (some (10 : Int)) (some (20 : Int)))) (some ([] : List Int)))))))) (b2 bJ (some bd) (some (5 : Int)))))
def AO (bH : (List Int)) (fU : Int) (sN : Int) : Option (List Int) := ba (S := Unit) (R := (List Int)) 
  (b1 (fun bw => (b1 (fun r => some (Fl.rt r)) (b2 dw (b2 dw (b3 cM (some bH) ce (bN (some bw))) (b1 aK (b2 ar (some sN) (some ([] : List Int))))) (b3 cM (some bH) (bN (some bw)) ce))))
    (b2 bJ (some fU) (b2 cN (b1 b7 (some bH)) (some (1 : Int)))))
def Dj (aj : (List (List (List Int)))) (af : (List Int)) : Option (P4 Int Int Int Int) := ba (S := Unit) (R := (P4 Int Int Int Int)) 
  (b1 (fun bW => (b1 (fun bK => (ah (S1 := (List Int)) (a9 (fG (b2 neM (some bW) (b1 aK (some ([] : List (P4 Int Int Int Int))))) (b2 gtI (b2 bJ (b2 hW (b2 atI (some af) (some (0 : Int))) (some (2 : Int))) (some (3 : Int))) (some (0 : Int))))
    (b1 (fun bK => (ah (S1 := (List Int)) (a9 (b2 eqM (b2 bJ (b2 hW (b2 atI (some af) (some (0 : Int))) (some (6 : Int))) (some (3 : Int))) (some (1 : Int)))
    (b1 (fun bw => (b2 (fun v z => E5 bK z v fun bK => (some (Fl.nx bK))) (b2 atI (b1 aK (b2 ar (b2 jT (b2 atI (some bK) (some bw)) (some (1 : Int))) (b2 ar (b2 cN (b2 atI (some bK) (some bw)) (some (1 : Int))) (b2 ar (b1 jY (some (1 : Int))) (b2 ar (some (12 : Int)) (b2 ar (b2 powI (some (10 : Int)) (some (20 : Int))) (b2 ar (b2 jT (some (1 : Int)) (b2 atI (some bK) (some bw))) (some ([] : List Int))))))))) (b2 bJ (b2 atI (some af) (some (3 : Int))) (some (6 : Int)))) (some bw)))
    (b2 bJ (b2 atI (some af) (some (2 : Int))) (some (4 : Int))))
    (some (Fl.nx bK))) fun s3 => (some (Fl.nx s3))))
    (b1 CY (b2 atI (some bW) (b2 bJ (b2 atI (some af) (some (1 : Int))) (b1 b7 (some bW))))))
    (some (Fl.nx bK))) fun s2 => (b1 (fun r => some (Fl.rt r)) (b4 mk4 (b2 atI (some s2) (some (0 : Int))) (b2 atI (some s2) (some (1 : Int))) (b2 atI (some s2) (some (2 : Int))) (b2 atI (some s2) (some (3 : Int)))))))
    (b1 aK (b2 ar (b2 bJ (b2 atI (some af) (some (0 : Int))) (some (2 : Int))) (b2 ar (b2 bJ (b2 atI (some af) (some (1 : Int))) (some (4 : Int))) (b2 ar (b2 bJ (b2 atI (some af) (some (2 : Int))) (some (13 : Int))) (b2 ar (b2 bJ (b2 atI (some af) (some (3 : Int))) (some (13 : Int))) (some ([] : List Int)))))))))
    (b1 j2 (some aj)))
end Kj

namespace Kj
open PySem L2
abbrev Cp := List Abs → AbsO → Prop
def HY (S : Cp) : Sp := fun vs H Q _ => ∃ As B Hr, S As B ∧ Same Hr H ∧ AllP As vs Hr ∧ ∀ p o H' Hr', Ext H Hr H' Hr' → H' p = none → B.p p o Hr' → Q (.ref p) (upd H' p o)
def aKp (Hk : Hp) (A : Abs) : Abs := ⟨fun v G => A.p v G ∧ Same Hk G, fun v G G' s h => ⟨A.mono _ _ _ s h.1, h.2.trans s⟩⟩
def aFr (Hk : Hp) (B : AbsO) : Abs := ⟨fun v G => ∃ p o, v = .ref p ∧ G p = some o ∧ Hk p = none ∧ B.p p o (rm G p), fun v G G' s ⟨p, o, e, h, n, b⟩ => ⟨p, o, e, s _ _ h, n, B.mono _ _ _ _ (gx p s) b⟩⟩
section
variable {G : WK} {H0 : Hp} {ρ ρ' : List Slot} {K : PySem.W.Frag} {f fa fb fc fd : Bool} {ta tb tc td te : TE} {α β γ δ ε S R : Type} {u : TS}
end
section
variable {P : Program} {w : World} {K : PySem.W.Frag} {mg : Str → Option Value} {base : Heap}
def Hi (Hk : Hp) : List Abs → List Slot
  | [] => []
  | A :: As => .new (aKp Hk A) :: As.map Slot.new
end
section
variable {H0 : Hp} {ρ ρ' : List Slot} {K : PySem.W.Frag} {ta tb tc td te : TE} {α β γ δ ε : Type} {A : α → Abs} {B : β → Abs} {D : δ → Abs} {E' : ε → Abs}
def so4 (A : α → Abs) (B : β → Abs) (D : δ → Abs) (E' : ε → Abs) (C : γ → AbsO) (F : α → β → δ → ε → Option γ) : Cp := fun As O => ∃ a b d e c, As = [A a, B b, D d, E' e] ∧ F a b d e = some c ∧ O = C c
end
section
variable {H0 : Hp} {ρ : List Slot} {f : Bool} {ta tb tc td te tf : TE} {α β δ ε ζ η γ : Type} {A : α → Abs} {B : β → Abs} {D : δ → Abs} {E' : ε → Abs} {G : ζ → Abs} {I : η → Abs} {C : γ → Abs} {ma : Option α} {mb : Option β} {md : Option δ} {me : Option ε} {mg : Option ζ} {mi : Option η} {Ex : XK}
end
end Kj

namespace Kj
open PySem PySem.W PySem.Calls PySem.Spec PyProof.Rows PyProof.V L2
section
variable {prog : Program} {w : World} {A : Around} {E : Value → Shared → Prop} {s : Shared} {r d : Addr} {es : Array DictEntry} {ep : Nat}
end
def xL : V → Hp → VK → Prop := fun x H Q => ∃ (d : Addr) (kvs : List (List Key × V)), x = .ref d ∧ H d = some (.dT kvs) ∧
  ∀ (H' : Hp) (p : Addr) (ts : List Addr) (bs : List (V × V)), (∀ b o, H b = some o → H' b = some o) → H p = none → (∀ t ∈ ts, H t = none) → p ∉ ts → H' p = some (.lst (ts.map V.ref)) →
    Paired (fun (q : List Key × V) (b : V × V) => ∃ a, b.1 = .ref a ∧ H a = some (.tup (q.1.map kV)) ∧ b.2 = q.2) kvs bs → Paired (fun (t : Addr) (b : V × V) => H' t = some (.tup [b.1, b.2])) ts bs → Q (.ref p) H'
def BT (te : TE) : TE := fun σ H Q => te σ H fun x H1 => xL x H1 Q
section
variable {X : Cx} {e : Expr} {te : TE} {p apos cpos pos : Pos}
end
end Kj

namespace Kj
open PySem L2
def Fs {α : Type} [DecidableEq α] (v : α) : List α → Option Nat
  | [] => none
  | x :: xs => if x = v then some 0 else (Fs v xs).map (· + 1)
def Hj (xs : List (List Int)) (v : List Int) : Option Int := (Fs v xs).map Int.ofNat
def Ge (xs : List Int) : Option Int := some xs.sum
section
variable {H0 : Hp} {ρ : List Slot} {K : PySem.W.Frag} {fa fb : Bool} {ta te : TE}
end
end Kj

namespace Kj
open PySem L2
def AP (bH : (List Int)) : Option (List (List Int)) := ba (S := Unit) (R := (List (List Int))) 
  (b1 (fun cQ => (ah (S1 := (List (List Int))) (b1 (fun xs => cD (fun x2 s1 => (b1 (fun jQ => (ah (S1 := (List (List Int))) (b1 (fun xs => cD (fun x8 s7 => (b1 (fun jQ => (some (Fl.nx jQ)))
    (b2 dw (some s7) (b1 (lcM fun x10 => lcE (some true) (b2 dw (b2 dw (b3 cM (some x8) ce (bN (some x10))) (b1 aK (b2 ar (some x2) (some ([] : List Int))))) (b3 cM (some x8) (bN (some x10)) ce))) (b1 rngM (b2 cN (b1 b7 (some x8)) (some (1 : Int)))))))) xs jQ) (some s1)) fun s7 => (b1 (fun cQ => (some (Fl.nx cQ)))
    (some s7))))
    (b1 aK (some ([] : List (List Int)))))) xs cQ) (some bH)) fun s1 => (b1 (fun r => some (Fl.rt r)) (some s1))))
    (b1 aK (b2 ar (b1 aK (some ([] : List Int))) (some ([] : List (List Int))))))
end Kj

namespace Kj
open PySem PySem.W PySem.Calls PySem.Spec PyProof.Rows PyProof.V L2
abbrev DL := List (List Key × Addr × V)
def va (L : DL) (xs : List (List Key × Addr × Value)) : Prop := Paired (fun (p : List Key × Addr × V) (q : List Key × Addr × Value) => p.1 = q.1 ∧ p.2.1 = q.2.1 ∧ RelV p.2.2 q.2.2) L xs
def dxφ (P : Program) (w : World) (d : Addr) (L : DL) : Heap → Prop := fun h => L.length ≤ sizeLine ∧ (d == sysModules) = false ∧ ∃ xs, va L xs ∧ ∃ o es ep, h.get? d = some o ∧ o.ExactDict ∧ o.data = .dict es ep ∧ es.toList = xs.map (entryOfKey (tupleKind (mixKind P w))) ∧ (xs.map (·.1)).Nodup
def dxO (P : Program) (w : World) (d : Addr) (L : DL) : HO := .ext (dxφ P w d L)
def lg (L : DL) (k : List Key) : Option V := (L.find? fun x => decide (x.1 = k)).map (·.2.2)
def xM (L : DL) (k : List Key) (b : Addr) (v : V) : DL := if (lg L k).isSome = true then L.map (fun x => if x.1 = k then (x.1, x.2.1, v) else x) else L ++ [(k, b, v)]
theorem va.val {L : DL} {xs : List (List Key × Addr × Value)} (r : va L xs) (k : List Key) : RelO (lg L k) ((atKey xs k).map (·.2)) := by
  induction r with
  | nil => exact True.intro
  | @cons p q ps qs h t ih =>
    obtain ⟨h1, _, h2⟩ := h
    by_cases e : p.1 = k
    · have e' : q.1 = k := h1.symm.trans e
      have b : atKey (q :: qs) k = some q.2 := by simp [atKey, List.find?_cons, e']
      have a : lg (p :: ps) k = some p.2.2 := by simp [lg, List.find?_cons, e]
      rw [a, b]; exact h2
    · have e' : ¬ q.1 = k := fun z => e (h1.trans z)
      have b : atKey (q :: qs) k = atKey qs k := by simp [atKey, List.find?_cons, e']
      have a : lg (p :: ps) k = lg ps k := by simp [lg, List.find?_cons, e]
      rw [a, b]; exact ih
theorem va.put {L : DL} {xs : List (List Key × Addr × Value)} (r : va L xs) (k : List Key) (b : Addr) {v : V} {u : Value} (rv : RelV v u) : va (xM L k b v) (storedH xs k b u) := by
  have e : (lg L k).isSome = (atKey xs k).isSome := by
    rw [(r.val k).isSome_eq, Option.isSome_map]
  unfold xM storedH
  rw [e]
  by_cases q : (atKey xs k).isSome = true
  · rw [if_pos q, if_pos q]
    clear e q
    induction r with
    | nil => exact .nil
    | @cons p q ps qs h t ih =>
      rw [List.map_cons, List.map_cons]
      refine .cons ?_ ih
      obtain ⟨h1, h2, h3⟩ := h
      unfold putAt
      by_cases e : p.1 = k
      · rw [if_pos e, if_pos (h1.symm.trans e)]; exact ⟨h1, h2, rv⟩
      · rw [if_neg e, if_neg (fun z => e (h1.trans z))]; exact ⟨h1, h2, h3⟩
  · rw [if_neg q, if_neg q]
    exact Paired.snoc r ⟨rfl, rfl, rv⟩
def qd (H : Hp) (L : DL) : Prop := ∀ x ∈ L, H x.2.1 = some (.tup (x.1.map kV))
theorem qd.of {P : Program} {w : World} {H : Hp} {h : Heap} (ok : HOk P w H h) {L : DL} {xs : List (List Key × Addr × Value)} (r : va L xs) (hK : qd H L) : ∀ x ∈ xs, (tupleKind (mixKind P w)).is h x.1 x.2.1 := by
  induction r with
  | nil => intro x hx; cases hx
  | @cons p q ps qs h t ih =>
    intro x hx
    rcases List.mem_cons.mp hx with e | hx
    · subst e
      obtain ⟨h1, h2, _⟩ := h
      rw [← h1, ← h2]
      exact key_of ok (hK p List.mem_cons_self)
    · exact ih (fun y hy => hK y (List.mem_cons_of_mem _ hy)) x hx
def Gc (P : Program) (w : World) : TE := fun _ H Q => ∀ p, H p = none → Q (.ref p) (upd H p (dxO P w p []))
def Gd (P : Program) (w : World) (td ty tx : TE) : TE := fun σ H Q => td σ H fun x H1 => ∃ a L1, x = .ref a ∧ H1 a = some (dxO P w a L1) ∧ ty σ H1 fun y H2 => tx σ H2 fun z H3 =>
  ∃ L k b, H3 a = some (dxO P w a L) ∧ qd H3 L ∧ y = .ref b ∧ H3 b = some (.tup (k.map kV)) ∧ Q ((lg L k).getD z) H3
def Gh (P : Program) (w : World) (td ty tv : TE) : TS := fun D σ H => tv σ H fun v H1 => td σ H1 fun x H2 => ty σ H2 fun y H3 =>
  ∃ a L k b, x = .ref a ∧ H3 a = some (dxO P w a L) ∧ qd H3 L ∧ L.length < 100000 ∧ y = .ref b ∧ H3 b = some (.tup (k.map kV)) ∧ D.nx σ (upd H3 a (dxO P w a (xM L k b v)))
def z4 (P : Program) (w : World) : V → Hp → VK → Prop := fun x H Q => ∃ (d : Addr) (L : DL), x = .ref d ∧ H d = some (dxO P w d L) ∧
  ∀ (H' : Hp) (p : Addr) (ts : List Addr), (∀ b o, H b = some o → H' b = some o) → H p = none → (∀ t ∈ ts, H t = none) → p ∉ ts → H' p = some (.lst (ts.map V.ref)) → Paired (fun (t : Addr) (x : List Key × Addr × V) => H' t = some (.tup [.ref x.2.1, x.2.2])) ts L → Q (.ref p) H'
def BS (P : Program) (w : World) (te : TE) : TE := fun σ H Q => te σ H fun x H1 => z4 P w x H1 Q
section
variable {X : Cx} {e o f : Expr} {te td ty tx tv : TE} {p apos cpos pos pos' : Pos}
end
end Kj

namespace Kj
open PySem PySem.SeqAt PySem.W PyProof.Rows L2
abbrev Dt := List (P2 (Tp Str) (List Int))
def kts (t : Tp Str) : List Key := t.items.map Sum.inr
theorem vI {a b : Tp Str} (h : kts a = kts b) : a = b := by
  obtain ⟨x⟩ := a; obtain ⟨y⟩ := b
  have : ∀ {x y : List Str}, x.map (Sum.inr : Str → Key) = y.map Sum.inr → x = y := by
    intro x
    induction x with
    | nil => intro y e; cases y with
      | nil => rfl
      | cons _ _ => cases e
    | cons a x ih => intro y e; cases y with
      | nil => cases e
      | cons b y =>
        rw [List.map_cons, List.map_cons] at e
        injection e with e1 e2
        rw [Sum.inr.inj e1, ih e2]
  exact congrArg Tp.mk (this h)
def aTq (t : Tp Str) : Abs := ⟨fun v H => ∃ b, v = .ref b ∧ H b = some (.tup ((kts t).map kV)), fun v H H' s ⟨b, e, h⟩ => ⟨b, e, s _ _ h⟩⟩
abbrev PD (K : PySem.W.Frag) (H : Hp) (L : DL) (d : Dt) : Prop := Paired (fun (x : List Key × Addr × V) (q : P2 (Tp Str) (List Int)) => x.1 = kts q.a ∧ H x.2.1 = some (.tup (x.1.map kV)) ∧ Dp K H x.2.2 (en q.b)) L d
theorem PD.mono {K : PySem.W.Frag} {H H' : Hp} {L : DL} {d : Dt} (h : PD K H L d) (s : Same H H') : PD K H' L d := Paired.mapP h fun _ _ z => ⟨z.1, s _ _ z.2.1, dE s _ _ z.2.2⟩
def oD (P : Program) (w : World) (K : PySem.W.Frag) (d : Dt) : AbsO := ⟨fun p o H => ∃ L, o = dxO P w p L ∧ PD K H L d, fun _ _ _ _ s ⟨L, e, h⟩ => ⟨L, e, h.mono s⟩⟩
def getT (d : Dt) (k : Tp Str) : Option (List Int) := (d.find? fun q => decide (q.a = k)).map P2.b
def CJ (d : Dt) (k : Tp Str) (v : List Int) : Dt := if (getT d k).isSome = true then d.map (fun q => if q.a = k then ⟨q.a, v⟩ else q) else d ++ [⟨k, v⟩]
def Fx (d : Dt) (k : Tp Str) (z : List Int) : Option (List Int) := some ((getT d k).getD z)
def E_ {β : Type} (d : Dt) (k : Tp Str) (v : List Int) (c : Dt → Option β) : Option β := if d.length < 100000 then c (CJ d k v) else none
theorem PD.keys {K : PySem.W.Frag} {H : Hp} {L : DL} {d : Dt} (h : PD K H L d) : qd H L := by
  induction h with
  | nil => intro x hx; cases hx
  | @cons a b as bs h t ih =>
    intro x hx
    rcases List.mem_cons.mp hx with e | hx
    · subst e; exact h.2.1
    · exact ih x hx
theorem PD.val {K : PySem.W.Frag} {H : Hp} {L : DL} {d : Dt} (h : PD K H L d) (k : Tp Str) : (lg L (kts k) = none ∧ getT d k = none) ∨ ∃ v x, lg L (kts k) = some v ∧ getT d k = some x ∧ Dp K H v (en x) := by
  induction h with
  | nil => exact .inl ⟨rfl, rfl⟩
  | @cons a b as bs h t ih =>
    by_cases e : b.a = k
    · refine .inr ⟨a.2.2, b.b, ?_, ?_, h.2.2⟩
      · have : a.1 = kts k := by rw [h.1, e]
        simp [lg, List.find?_cons, this]
      · simp [getT, List.find?_cons, e]
    · have e2 : ¬ a.1 = kts k := fun z => e (vI (h.1.symm.trans z))
      have a1 : lg (a :: as) (kts k) = lg as (kts k) := by simp [lg, List.find?_cons, e2]
      have a2 : getT (b :: bs) k = getT bs k := by simp [getT, List.find?_cons, e]
      rw [a1, a2]
      exact ih
theorem PD.put {K : PySem.W.Frag} {H : Hp} {L : DL} {d : Dt} (h : PD K H L d) {k : Tp Str} {b : Addr} {v : V} {x : List Int} (hb : H b = some (.tup ((kts k).map kV))) (hv : Dp K H v (en x)) : PD K H (xM L (kts k) b v) (CJ d k x) := by
  have e : (lg L (kts k)).isSome = (getT d k).isSome := by
    rcases h.val k with ⟨h1, h2⟩ | ⟨v, x, h1, h2, _⟩ <;> rw [h1, h2] <;> rfl
  unfold xM CJ
  rw [e]
  by_cases q : (getT d k).isSome = true
  · rw [if_pos q, if_pos q]
    clear e q
    induction h with
    | nil => exact .nil
    | @cons a b as bs h t ih =>
      rw [List.map_cons, List.map_cons]
      refine .cons ?_ ih
      by_cases e : b.a = k
      · rw [if_pos (show a.1 = kts k by rw [h.1, e]), if_pos e]
        exact ⟨h.1, h.2.1, hv⟩
      · rw [if_neg (fun z => e (vI (h.1.symm.trans z))), if_neg e]
        exact h
  · rw [if_neg q, if_neg q]
    exact Paired.snoc h ⟨rfl, hb, hv⟩
section
variable {Gw : WK} {H0 : Hp} {ρ ρ' : List Slot} {K : PySem.W.Frag} {P : Program} {w : World} {f fa fb : Bool} {ta tb te : TE} {S R : Type} {A : R → Abs} {B : S → List Slot} {u : TS}
end
end Kj

namespace Kj
open PySem L2
def Df (aI : DealT) (a_ : (List Int)) (lA : (List (P2 (Tp Str) (P4 Int Int Int Int)))) (ak : Int) : Option (Option Int) := ba (S := Unit) (R := (Option Int)) 
  (b1 (fun _ => (b1 (fun _ => (b1 (fun eI => (b1 (fun dR => (b1 (fun r => some (Fl.rt r)) (b2 GE (b1 (lcM fun x2 => lcE (b3 pA (some aI) (some ak) (some x2.b)) (b1 yh (some x2.a))) (some dR)) (some (none : (Option Int))))))
    (b1 (lcM fun x1 => lcE (b2 eK (b1 kC (some x1.a)) (some eI)) (b2 mk2 (some x1.a) (some x1.b))) (some lA))))
    (b2 bM (b1 bA (some aI) ) (some ak)))) (b3 mD (some aI) (some a_) (some lA)))) (b2 cA (b1 bA (some aI) ) (some ak)))
def tN (aI : DealT) (a_ : (List Int)) : Option (List (P2 (Tp Str) (List Int))) := ba (S := Unit) (R := (List (P2 (Tp Str) (List Int)))) 
  (b1 (fun bv => (b1 (fun rf => (ah (S1 := Dt) (b1 (fun xs => cD (fun x2 s1 => (ah (S1 := Dt) (a9 ((b2 cY (some aI) (some x2)).map Option.isSome)
    (b1 (fun dX => (b2 (fun v z => E_ s1 z v fun rf => (some (Fl.nx rf))) (b2 dw (b2 (Fx s1) (some dX) (b1 aK (some ([] : List Int)))) (b1 aK (b2 ar (some x2) (some ([] : List Int))))) (some dX)))
    (b1 oU (b3 cM (b2 bM (some bv) (some x2)) ce (bN (b3 yE (some aI) (some a_) (some x2))))))
    (some (Fl.nx s1))) fun s4 => (some (Fl.nx s4)))) xs rf) (b2 i6 (some bv) (some a_))) fun s1 => (b1 (fun r => some (Fl.rt r)) (some s1)))) (some ([] : Dt))))
    (b1 bA (some aI) ))
def uG (aI : DealT) (a_ : (List Int)) : Option (List (P2 (Tp Str) (P4 Int Int Int Int))) := ba (S := Unit) (R := (List (P2 (Tp Str) (P4 Int Int Int Int)))) 
  (b1 (fun r => some (Fl.rt r)) (b1 lim (b1 (lS fun x1 => a9 (some true) (b1 (lS fun x2 => a9 (some true) (b1 wG (b2 mk2 (some x1.a) (some x2))) (some [])) (b2 hO (some aI) (some x1.b))) (some [])) (b2 tN (some aI) (some a_)))))
end Kj

namespace Kj
open PySem L2
section
variable {Gw : WK} {H0 : Hp} {ρ ρ' : List Slot} {K : PySem.W.Frag} {f fa fb fc : Bool} {ta tb tc te : TE} {α β γ δ S S1 R : Type} {A : R → Abs} {B : S → List Slot} {t u w : TS}
def Hu {α : Type} (x : Tp α) (lo hi : Option Int) : Option (Tp α) := some ⟨iD x.items lo hi⟩
end
end Kj

namespace Kj
open PySem L2
def upG (Gs : Nat → Hp) (i : Nat) (G : Hp) : Nat → Hp := fun j => if j = i then G else Gs j
theorem li {Gs : Nat → Hp} {i j : Nat} {G : Hp} (h : j = i) : upG Gs i G j = G := if_pos h
theorem lh {Gs : Nat → Hp} {i j : Nat} {G : Hp} (h : j ≠ i) : upG Gs i G j = Gs j := if_neg h
theorem EnvOk.layR {H0 H Hr H1 G : Hp} {σ : St} {ρ : List Slot} (E : EnvOk H0 σ ρ H Hr) {i : Nat} {A : Abs} {v : V} (hi : i < ρ.length) (s : Same H H1) (hA : A.p v G) (hG : ∀ a o, G a = some o → H1 a = some o ∧ H a = none) :
    EnvOk H0 (σ.set i (some v)) (ρ.set i (.reg A)) H1 Hr := by
  have E1 := E.back s
  have hσ : i < σ.length := by rw [E.len]; exact hi
  obtain ⟨Gs, r1, r2, r3⟩ := E.reg
  have old : ∀ (j : Nat) (B : Slot), j ≠ i → (ρ.set i (.reg A))[j]? = some B → ρ[j]? = some B := fun j B n h => by rwa [List.getElem?_set_ne (Ne.symm n)] at h
  have ow : ∀ (j : Nat) (B : AbsO), (ρ.set i (.reg A))[j]? = some (.own B) → j ≠ i ∧ ρ[j]? = some (.own B) := fun j B h => by
    rcases c8 h with ⟨_, e⟩ | ⟨n, e⟩
    · cases e
    · exact ⟨n, e⟩
  have es : ∀ j, j ≠ i → (σ.set i (some v))[j]? = σ[j]? := fun j n => List.getElem?_set_ne (Ne.symm n)
  refine ⟨E1.base, E1.sub, by simp [E.len], fun j sl h => ?_, fun j k p B B' hjk hj hk ej ek => ?_, upG Gs i G, fun j A' h => ?_, fun j k A1 A2 n h h' a o q => ?_, fun j k A1 B p h h' hs => ?_⟩
  · rcases c8 h with ⟨_, e⟩ | ⟨n, e⟩
    · subst e; trivial
    · have q := E1.slot j sl e
      cases sl with
      | no => trivial
      | reg A => trivial
      | dat A => unfold im at q ⊢; rw [es j n]; exact q
      | new A => unfold im at q ⊢; rw [es j n]; exact q
      | own B => unfold im at q ⊢; rw [es j n]; exact q
  · obtain ⟨n1, h1⟩ := ow j B hj
    obtain ⟨n2, h2⟩ := ow k B' hk
    rw [es j n1] at ej
    rw [es k n2] at ek
    exact E.dis j k p B B' hjk h1 h2 ej ek
  · rcases c8 h with ⟨z, e⟩ | ⟨n, e⟩
    · cases e
      rw [li z, z]
      exact ⟨⟨v, List.getElem?_set_self hσ, hA⟩, fun a o q => ⟨(hG a o q).1, E.sub.free (hG a o q).2, E.base.free (hG a o q).2⟩⟩
    · rw [lh n, es j n]
      obtain ⟨g1, g2⟩ := r1 j A' e
      exact ⟨g1, fun a o q => ⟨s _ _ (g2 a o q).1, (g2 a o q).2⟩⟩
  · rcases c8 h with ⟨z, e⟩ | ⟨n1, e⟩
    · rw [li z] at q
      rcases c8 h' with ⟨z', e'⟩ | ⟨n2, e'⟩
      · exact absurd (z.trans z'.symm) n
      · rw [lh n2]
        cases y : Gs k a with
        | none => rfl
        | some u => have := ((r1 k A2 e').2 a u y).1; rw [(hG a o q).2] at this; cases this
    · rw [lh n1] at q
      rcases c8 h' with ⟨z', e'⟩ | ⟨n2, e'⟩
      · rw [li z']
        cases y : G a with
        | none => rfl
        | some u => have := ((r1 j A1 e).2 a o q).1; rw [(hG a u y).2] at this; cases this
      · rw [lh n2]; exact r2 j k A1 A2 n e e' a o q
  · obtain ⟨n2, h2⟩ := ow k B h'
    rw [es k n2] at hs
    rcases c8 h with ⟨z, e⟩ | ⟨n1, e⟩
    · rw [li z]
      obtain ⟨p', u, e1, _, _, e4, _⟩ := E.slot k _ h2
      rw [hs] at e1; cases e1
      cases y : G p with
      | none => rfl
      | some w => rw [(hG p w y).2] at e4; cases e4
    · rw [lh n1]; exact r3 j k A1 B p e h2 hs
theorem EnvOk.regAt {H0 H Hr : Hp} {σ : St} {ρ : List Slot} (E : EnvOk H0 σ ρ H Hr) {i : Nat} {A : Abs} (hi : ρ[i]? = some (.reg A)) :
    ∃ v G, σ[i]? = some (some v) ∧ A.p v G ∧ (∀ a o, G a = some o → H a = some o ∧ Hr a = none ∧ H0 a = none) ∧
      (∀ (H' G' : Hp) (A' : Abs), (∀ a o, H a = some o → G a = none → H' a = some o) → (∀ a o, G' a = some o → H' a = some o ∧ (G a ≠ none ∨ H a = none)) → A'.p v G' → EnvOk H0 σ (ρ.set i (.reg A')) H' Hr) ∧
      (∀ (H' : Hp), (∀ a o, H a = some o → G a = none → H' a = some o) → EnvOk H0 σ (ρ.set i .no) H' Hr) := by
  have hl : i < ρ.length := (List.getElem?_eq_some_iff.mp hi).1
  obtain ⟨Gs, r1, r2, r3⟩ := E.reg
  obtain ⟨⟨v, v1, v2⟩, v3⟩ := r1 i A hi
  have core : ∀ (H' : Hp) (s' : Slot), (∀ B, s' ≠ .own B) → (∀ A, s' ≠ .dat A) → (∀ A, s' ≠ .new A) → (∀ a o, H a = some o → Gs i a = none → H' a = some o) → jN H0 H' Hr σ (ρ.set i s') → EnvOk H0 σ (ρ.set i s') H' Hr := fun H' s' no nd nn keep hreg => by
    have kr : Same Hr H' := fun a o q => keep a o (E.sub _ _ q) (by
      cases y : Gs i a with
      | none => rfl
      | some u => rw [(v3 a u y).2.1] at q; cases q)
    have kb : Same H0 H' := fun a o q => keep a o (E.base _ _ q) (by
      cases y : Gs i a with
      | none => rfl
      | some u => rw [(v3 a u y).2.2] at q; cases q)
    have ow : ∀ (j : Nat) (B : AbsO), (ρ.set i s')[j]? = some (.own B) → j ≠ i ∧ ρ[j]? = some (.own B) := fun j B h => by
      rcases c8 h with ⟨_, e⟩ | ⟨n, e⟩
      · exact absurd e.symm (no B)
      · exact ⟨n, e⟩
    refine ⟨kb, kr, by simp [E.len], fun j sl h => ?_, fun j k p B B' hjk hj hk ej ek => E.dis j k p B B' hjk (ow j B hj).2 (ow k B' hk).2 ej ek, hreg⟩
    rcases c8 h with ⟨_, e⟩ | ⟨n, e⟩
    · subst e
      cases sl with
      | no => trivial
      | reg A => trivial
      | own B => exact absurd rfl (no B)
      | dat A => exact absurd rfl (nd A)
      | new A => exact absurd rfl (nn A)
    · have q := E.slot j sl e
      cases sl with
      | no => trivial
      | reg A => trivial
      | dat A => exact q
      | new A => exact q
      | own B =>
        obtain ⟨p, u, e1, e2, e3, e4, e5⟩ := q
        exact ⟨p, u, e1, e2, e3, keep _ _ e4 (r3 i j A B p hi e e1), e5⟩
  refine ⟨v, Gs i, v1, v2, v3, fun H' G' A' keep g hA => ?_, fun H' keep => ?_⟩
  · refine core H' _ (fun B z => by cases z) (fun B z => by cases z) (fun B z => by cases z) keep ⟨upG Gs i G', fun j A1 h => ?_, fun j k A1 A2 n h h' a o q => ?_, fun j k A1 B p h h' hs => ?_⟩
    · rcases c8 h with ⟨z, e⟩ | ⟨n, e⟩
      · cases e
        rw [li z, z]
        refine ⟨⟨v, v1, hA⟩, fun a o q => ⟨(g a o q).1, ?_⟩⟩
        rcases (g a o q).2 with y | y
        · cases y' : Gs i a with
          | none => exact absurd y' y
          | some u => exact (v3 a u y').2
        · exact ⟨E.sub.free y, E.base.free y⟩
      · rw [lh n]
        obtain ⟨g1, g2⟩ := r1 j A1 e
        exact ⟨g1, fun a o q => ⟨keep a o (g2 a o q).1 (r2 j i A1 A n e hi a o q), (g2 a o q).2⟩⟩
    · have off : ∀ (m : Nat) (A3 : Abs), m ≠ i → ρ[m]? = some (.reg A3) → ∀ a, G' a ≠ none → Gs m a = none := fun m A3 hm h3 a ha => by
        cases y : G' a with
        | none => exact absurd y ha
        | some u =>
          rcases (g a u y).2 with z | z
          · cases y' : Gs i a with
            | none => exact absurd y' z
            | some u' => exact r2 i m A A3 (Ne.symm hm) hi h3 a u' y'
          · cases y' : Gs m a with
            | none => rfl
            | some u' => rw [((r1 m A3 h3).2 a u' y').1] at z; cases z
      rcases c8 h with ⟨z, e⟩ | ⟨n1, e⟩
      · rw [li z] at q
        rcases c8 h' with ⟨z', e'⟩ | ⟨n2, e'⟩
        · exact absurd (z.trans z'.symm) n
        · rw [lh n2]; exact off k A2 n2 e' a (by rw [q]; intro z; cases z)
      · rw [lh n1] at q
        rcases c8 h' with ⟨z', e'⟩ | ⟨n2, e'⟩
        · rw [li z']
          cases y : G' a with
          | none => rfl
          | some u => rw [off j A1 n1 e a (by rw [y]; intro z; cases z)] at q; cases q
        · rw [lh n2]; exact r2 j k A1 A2 n e e' a o q
    · rcases c8 h' with ⟨_, e⟩ | ⟨n2, e2⟩
      · cases e
      · rcases c8 h with ⟨z, e⟩ | ⟨n1, e⟩
        · rw [li z]
          obtain ⟨p', u, f1, _, _, f4, _⟩ := E.slot k _ e2
          rw [hs] at f1; cases f1
          cases y : G' p with
          | none => rfl
          | some w =>
            rcases (g p w y).2 with z | z
            · exact absurd (r3 i k A B p hi e2 hs) z
            · rw [f4] at z; cases z
        · rw [lh n1]; exact r3 j k A1 B p e e2 hs
  · refine core H' _ (fun B z => by cases z) (fun B z => by cases z) (fun B z => by cases z) keep ⟨Gs, fun j A1 h => ?_, fun j k A1 A2 n h h' a o q => ?_, fun j k A1 B p h h' hs => ?_⟩
    · rcases c8 h with ⟨z, e⟩ | ⟨n, e⟩
      · cases e
      · obtain ⟨g1, g2⟩ := r1 j A1 e
        exact ⟨g1, fun a o q => ⟨keep a o (g2 a o q).1 (r2 j i A1 A n e hi a o q), (g2 a o q).2⟩⟩
    · rcases c8 h with ⟨z, e⟩ | ⟨n1, e⟩
      · cases e
      · rcases c8 h' with ⟨z', e'⟩ | ⟨n2, e'⟩
        · cases e'
        · exact r2 j k A1 A2 n e e' a o q
    · rcases c8 h' with ⟨_, e⟩ | ⟨n2, e2⟩
      · cases e
      · rcases c8 h with ⟨z, e⟩ | ⟨n1, e⟩
        · cases e
        · exact r3 j k A1 B p e e2 hs
theorem zB {H0 : Hp} {ρ : List Slot} {i : Nat} {A : Abs} (hi : ρ[i]? = some (.reg A)) : Bo H0 ρ (ρ.set i (.new A)) := fun σ H Hr E => by
  have hl : i < ρ.length := (List.getElem?_eq_some_iff.mp hi).1
  obtain ⟨Gs, r1, r2, r3⟩ := E.reg
  obtain ⟨⟨v, v1, v2⟩, v3⟩ := r1 i A hi
  let Hr' : Hp := fun a => match Hr a with | some o => some o | none => Gs i a
  have up : Same Hr Hr' := fun a o q => by show (match Hr a with | some o => some o | none => Gs i a) = _; rw [q]
  have inv : ∀ a o, Hr' a = some o → Hr a = some o ∨ (Hr a = none ∧ Gs i a = some o) := fun a o q => by
    have q' : (match Hr a with | some o => some o | none => Gs i a) = some o := q
    cases y : Hr a with
    | some u => rw [y] at q'; exact .inl q'
    | none => rw [y] at q'; exact .inr ⟨rfl, q'⟩
  have off : ∀ a, Hr a = none → Gs i a = none → Hr' a = none := fun a h1 h2 => by show (match Hr a with | some o => some o | none => Gs i a) = _; rw [h1]; exact h2
  have gin : Same (Gs i) (mns Hr' H0) := fun a o q => bu.mpr ⟨(v3 a o q).2.2, by show (match Hr a with | some o => some o | none => Gs i a) = _; rw [(v3 a o q).2.1]; exact q⟩
  refine ⟨Hr', up, E.base, fun a o q => ?_, by simp [E.len], fun j sl h => ?_, fun j k p B B' hjk hj hk ej ek => ?_, Gs, fun j A1 h => ?_, fun j k A1 A2 n h h' a o q => ?_, fun j k A1 B p h h' hs => ?_⟩
  · rcases inv a o q with y | ⟨_, y⟩
    · exact E.sub _ _ y
    · exact (v3 a o y).1
  · rcases c8 h with ⟨z, e⟩ | ⟨n, e⟩
    · subst e z
      exact ⟨v, v1, A.mono _ _ _ gin v2⟩
    · have q := E.slot j sl e
      cases sl with
      | no => trivial
      | reg A => trivial
      | dat A => obtain ⟨w, g1, g2⟩ := q; exact ⟨w, g1, A.mono _ _ _ up g2⟩
      | new A => obtain ⟨w, g1, g2⟩ := q; exact ⟨w, g1, A.mono _ _ _ (dI H0 up) g2⟩
      | own B =>
        obtain ⟨p, u, e1, e2, e3, e4, e5⟩ := q
        exact ⟨p, u, e1, e2, off _ e3 (r3 i j A B p hi e e1), e4, B.mono _ _ _ _ (dI H0 up) e5⟩
  · have ow : ∀ (j : Nat) (B : AbsO), (ρ.set i (.new A))[j]? = some (.own B) → ρ[j]? = some (.own B) := fun j B h => by
      rcases c8 h with ⟨_, e⟩ | ⟨n, e⟩
      · cases e
      · exact e
    exact E.dis j k p B B' hjk (ow j B hj) (ow k B' hk) ej ek
  · rcases c8 h with ⟨_, e⟩ | ⟨n, e⟩
    · cases e
    · obtain ⟨g1, g2⟩ := r1 j A1 e
      exact ⟨g1, fun a o q => ⟨(g2 a o q).1, off a (g2 a o q).2.1 (r2 j i A1 A n e hi a o q), (g2 a o q).2.2⟩⟩
  · rcases c8 h with ⟨_, e⟩ | ⟨n1, e⟩
    · cases e
    · rcases c8 h' with ⟨_, e'⟩ | ⟨n2, e'⟩
      · cases e'
      · exact r2 j k A1 A2 n e e' a o q
  · rcases c8 h with ⟨_, e⟩ | ⟨n1, e⟩
    · cases e
    · rcases c8 h' with ⟨_, e'⟩ | ⟨n2, e'⟩
      · cases e'
      · exact r3 j k A1 B p e e' hs
def DMr (H0 : Hp) (ρ : List Slot) (t : TE) {α : Type} (A : α → Abs) (m : Option α) : Prop := ∀ x, m = some x → ∀ (σ : St) (H Hr : Hp) (Q : VK), EnvOk H0 σ ρ H Hr →
  (∀ v H1 G, Same H H1 → (A x).p v G → (∀ a o, G a = some o → H1 a = some o ∧ H a = none) → Q v H1) → t σ H Q
section
variable {Gw : WK} {H0 : Hp} {ρ ρ' : List Slot} {K : PySem.W.Frag} {f fa fb fc : Bool} {ta tb tc te : TE} {α β γ δ S S1 R : Type} {A : R → Abs} {B : S → List Slot} {t u w : TS} {Ax : α → Abs}
theorem BB {i : Nat} {m : Option α} {k : α → Option (Fl S R)} (h : DMr H0 ρ te Ax m) (hk : ∀ x : α, DB Gw H0 (ρ.set i (.reg (Ax x))) u A (k x) B) (hi : Nat.blt i ρ.length = true := by rfl) : DB Gw H0 ρ (tSeq (tAsg te (gName i)) u) A (b1 k m) B := fun fl e => by
  obtain ⟨x, h1, h2⟩ := cC e
  refine mK (ρ1 := ρ.set i (.reg (Ax x))) (fun σ H Hr D E kn kr kx => ?_) (hk x fl h2)
  refine h x h1 σ H Hr _ E fun v H1 G s hA hG => ?_
  exact kn _ _ _ Hr rfl (E.layR (kB hi) s hA hG) (Same.refl _)
end
end Kj

namespace Kj
open PySem L2
def vOf : PyData → V
  | .bool b => .bl b
  | .int i => .int i
  | .str s => .str s
  | _ => .non
theorem DN {K : PySem.W.Frag} {H : Hp} {d : PyData} {v : V} (hs : scD d = true) (h : Dp K H v d) : v = vOf d := by
  cases h with
  | non => rfl
  | bl b => rfl
  | int i => rfl
  | str x => rfl
  | lst _ _ => cases hs
  | tup _ _ => cases hs
theorem Cv {K : PySem.W.Frag} {H : Hp} {d : PyData} (hs : scD d = true) : Dp K H (vOf d) d := by
  cases d with
  | none => exact .non
  | bool b => exact .bl b
  | int i => exact .int i
  | str x => exact .str x
  | list _ => cases hs
  | tuple _ => cases hs
  | dict _ => cases hs
abbrev wv {α : Type} [Enc α] (x : List α) : List V := x.map fun a => vOf (en a)
theorem ro {α : Type} [Enc α] [Flt α] {K : PySem.W.Frag} {H : Hp} : ∀ x : List α, DpAll K H (wv x) (x.map en)
  | [] => .nil
  | a :: x => .cons (Cv (Flt.fl a)) (ro x)
def dL {α : Type} [Enc α] (H : Hp) (rs : List Addr) (xs : List (List α)) : Prop := Paired (fun (r : Addr) (x : List α) => H r = some (.lst (wv x))) rs xs
theorem dL.keep {α : Type} [Enc α] {H H' : Hp} {rs : List Addr} {xs : List (List α)} (h : dL H rs xs) (s : ∀ r ∈ rs, ∀ o, H r = some o → H' r = some o) : dL H' rs xs := by
  unfold dL at *
  induction h with
  | nil => exact .nil
  | cons a t ih => exact .cons (s _ (by simp) _ a) (ih fun r hr => s r (by simp [hr]))
theorem dL.dp {α : Type} [Enc α] [Flt α] {K : PySem.W.Frag} {H : Hp} {rs : List Addr} {xs : List (List α)} (h : dL H rs xs) : DpAll K H (rs.map .ref) (xs.map en) := by
  unfold dL at h
  induction h with
  | nil => exact .nil
  | cons a t ih => exact .cons (.lst (SqL.of a) (ro _)) ih
def HF (Hr G : Hp) : Hp := fun b => match Hr b with | some o => some o | none => G b
def Ig (l : List Addr) (G : Hp) : Hp := fun a => if a ∈ l then G a else none
def aTr {α : Type} [Enc α] (xs : List (List α)) : Abs := ⟨fun v H => ∃ p rs, v = .ref p ∧ H p = some (.lst (rs.map .ref)) ∧ dL H rs xs ∧ (p :: rs).Nodup, fun v H H' s z => by
  obtain ⟨p, rs, e, h, t, n⟩ := z
  exact ⟨p, rs, e, s _ _ h, t.keep fun r _ o z => s _ _ z, n⟩⟩
section
variable {Gw : WK} {H0 : Hp} {ρ ρ' : List Slot} {K : PySem.W.Frag} {f fa fb fc : Bool} {ta tb tc te : TE} {α β γ δ S S1 R : Type} {A : R → Abs} {B : S → List Slot} {t u w : TS} {Ax : α → Abs} {Bx : β → Abs} {Cx : γ → Abs}
end
end Kj

namespace Kj
open PySem L2
def aIs (x : V) : Abs := ⟨fun v _ => v = x, fun _ _ _ _ h => h⟩
def GD (ρ : List Slot) (i : Nat) : Prop := ∀ (m : Nat) (A : Abs), m ≠ i → ρ[m]? ≠ some (.dat A)
end Kj

namespace Kj
open PySem L2
def oP {α : Type} [Enc α] (r : Addr) (x : List α) : AbsO := ⟨fun a o _ => a = r ∧ o = .lst (wv x), fun _ _ _ _ _ h => h⟩
def IC {α : Type} [Enc α] (p : Addr) (rs : List Addr) (xs : List (List α)) : Abs := ⟨fun v H => v = .ref p ∧ H p = some (.lst (rs.map .ref)) ∧ dL H rs xs ∧ (p :: rs).Nodup, fun v H H' s z => by
  obtain ⟨e, h, t, n⟩ := z
  exact ⟨e, s _ _ h, t.keep fun r _ o z => s _ _ z, n⟩⟩
theorem dL.at {α : Type} [Enc α] {H : Hp} : ∀ {rs : List Addr} {xs : List (List α)}, dL H rs xs → ∀ {k : Nat} {x : List α}, xs[k]? = some x → ∃ r, rs[k]? = some r ∧ H r = some (.lst (wv x))
  | _, _, .nil, k, x, e => by simp at e
  | _, _, .cons a t, 0, x, e => by simp at e; subst e; exact ⟨_, rfl, a⟩
  | _, _, .cons a t, k + 1, x, e => dL.at t (by simpa using e)
theorem dL.put {α : Type} [Enc α] {H H' : Hp} {y : List α} {r : Addr} : ∀ {rs : List Addr} {xs : List (List α)} {k : Nat}, dL H rs xs → rs.Nodup → rs[k]? = some r → (∀ a ∈ rs, a ≠ r → ∀ o, H a = some o → H' a = some o) → H' r = some (.lst (wv y)) → dL H' rs (xs.set k y)
  | _, _, k, .nil, _, e, _, _ => by simp at e
  | _, _, 0, .cons a t, nd, e, s, h => by
    simp at e
    subst e
    refine .cons h (dL.keep t fun b hb o q => s b (by simp [hb]) (fun z => ?_) o q)
    subst z; exact (List.nodup_cons.mp nd).1 hb
  | _, _, k + 1, .cons a t, nd, e, s, h => by
    have e' := (by simpa using e : _ = some r)
    refine .cons (s _ (by simp) (fun z => ?_) _ a) (dL.put t (List.nodup_cons.mp nd).2 e' (fun b hb => s b (by simp [hb])) h)
    subst z; exact (List.nodup_cons.mp nd).1 (List.mem_of_getElem? e')
section
variable {Gw : WK} {H0 : Hp} {ρ ρ' : List Slot} {K : PySem.W.Frag} {f fa fb fc : Bool} {ta tb tc te : TE} {α β γ δ S S1 R : Type} {A : R → Abs} {B : S → List Slot} {t u w : TS} {Ax : α → Abs} {Bx : β → Abs} {C : WZ}
end
end Kj

namespace Kj
open PySem L2
def GC (ρ : List Slot) : Bool := ρ.all fun s => match s with | .dat _ => false | _ => true
def nxO {S R : Type} (m : Option (Fl S R)) : Option S := m.bind fun fl => match fl with | .nx s => some s | _ => none
def GG {α β : Type} (f : α → Option β) : List α → Option (List β)
  | [] => some []
  | x :: xs => (f x).bind fun y => (GG f xs).bind fun ys => some (y :: ys)
def Hg {α β : Type} (xs : List α) (k : List α → Option β) : Option β := if xs = [] then none else k xs.dropLast
section
variable {Gw : WK} {H0 : Hp} {ρ ρ' : List Slot} {K : PySem.W.Frag} {f fa fb fc : Bool} {ta tb tc te : TE} {α β γ δ S S1 S2 R R2 : Type} {A : R → Abs} {A2 : R2 → Abs} {B : S → List Slot} {t u w : TS} {Ax : α → Abs} {Bx : β → Abs} {C : WZ}
theorem dL.last {α : Type} [Enc α] {H : Hp} {rs : List Addr} {xs : List (List α)} (h : dL H rs xs) : dL H rs.dropLast xs.dropLast := by
  unfold dL at *
  induction h with
  | nil => exact .nil
  | @cons a b as bs h t ih =>
    cases t with
    | nil => exact .nil
    | cons h' t' => exact .cons h ih
end
def spW (K : PySem.W.Frag) {α β : Type} [Enc α] [Enc β] (F : List (List α) → β → Option Unit) : Sp := fun vs H Q _ => ∃ v0 v1 a b G, vs = [v0, v1] ∧ F a b = some () ∧ (aTr a).p v0 G ∧ (∀ J, Dp K J v1 (en b)) ∧ (∀ x o, G x = some o → H x = some o) ∧ ∀ H', (∀ x o, H x = some o → G x = none → H' x = some o) → Q .non H'
section
variable {P : Program} {w : World} {K : PySem.W.Frag} {mg : Str → Option Value} {base : Heap}
end
section
variable {Gw : WK} {H0 : Hp} {ρ ρ' : List Slot} {K : PySem.W.Frag} {f fa fb fc : Bool} {ta tb tc te : TE} {α β γ δ S S1 R : Type} {A : R → Abs} {B : S → List Slot} {t u w : TS}
end
end Kj

namespace Kj
open PySem L2
def H9 (S : List Abs → List (Str × Abs) → Prop) (C : Addr) : Sp := fun vs H Q _ => ∃ x dx A0 As fas v0 rest Hr, vs = .ref x :: v0 :: rest ∧ H x = some (.ins C dx []) ∧ S (A0 :: As) fas ∧ Same Hr (rm H x) ∧ A0.p v0 Hr ∧ AllP As rest (rm H x) ∧
  ∀ H' Hr' fs, Ext (rm H x) Hr (rm H' x) Hr' → H' x = some (.ins C dx fs) → FAll fas fs Hr' → Q .non H'
section
variable {Gw : WK} {C' : WZ} {H0 : Hp} {ρ ρ' : List Slot} {K : PySem.W.Frag} {f fa fb fc : Bool} {ta tb tc te : TE} {α β γ δ ε S S1 R : Type} {A : R → Abs} {B : S → List Slot} {t u w : TS} {C : Addr} {fas : List (Str × Abs)}
theorem dL.mem [Enc α] {H : Hp} {rs : List Addr} {xs : List (List α)} (h : dL H rs xs) {r : Addr} (hr : r ∈ rs) : ∃ o, H r = some o := by
  unfold dL at h
  induction h with
  | nil => cases hr
  | cons a t ih =>
    rcases List.mem_cons.mp hr with z | z
    · rw [z]; exact ⟨_, a⟩
    · exact ih z
end
section
variable {P : Program} {w : World} {K : PySem.W.Frag} {mg : Str → Option Value} {base : Heap}
end
end Kj

namespace Kj
open PySem L2
def rsS {α : Type} (m : Option (Rs α)) : Option (Rs (Option α)) := m.map fun r => match r with | .ok x => .ok (some x) | .ex e => .ex e
section
variable {W : WX} {Gw : WK} {H0 : Hp} {ρ ρ' : List Slot} {K K' : PySem.W.Frag} {f fa fb fc : Bool} {ta tb tc te : TE} {α β γ δ S S1 R : Type} {A : R → Abs} {B : S → List Slot} {t u w : TS}
def aTO [Enc α] (K : PySem.W.Frag) (x : P2 Str (Option (List α))) : Abs := ⟨fun v H => ∃ q w, v = .ref q ∧ H q = some (.tup [.str x.a, w]) ∧ (F2 K x.b).p w H, fun v H H' s z => by
  obtain ⟨q, w, e, h, a⟩ := z
  exact ⟨q, w, e, s _ _ h, (F2 K x.b).mono _ _ _ s a⟩⟩
def HV {α β γ : Type} (x : P2 α (Option (List β))) (k : Option γ) : Option γ := match x.b with | some xs => if xs.length < 100000 then k else none | none => none
end
end Kj

namespace Kj
open PySem L2
abbrev T3 := List (Addr × List Addr)
def gY {α : Type} [Enc α] (H : Hp) (T : T3) (xss : List (List (List α))) : Prop := Paired (fun (t : Addr × List Addr) (xs : List (List α)) => H t.1 = some (.lst (t.2.map .ref)) ∧ dL H t.2 xs) T xss
abbrev nI (T : T3) : List Addr := T.flatMap fun t => t.1 :: t.2
theorem gY.keep {α : Type} [Enc α] {H H' : Hp} {T : T3} {xss : List (List (List α))} (h : gY H T xss) (s : ∀ a ∈ nI T, ∀ o, H a = some o → H' a = some o) : gY H' T xss := by
  unfold gY at *
  induction h with
  | nil => exact .nil
  | cons a t ih =>
    refine .cons ⟨s _ (by simp) _ a.1, a.2.keep fun r hr o q => s r (by simp [hr]) o q⟩ (ih fun r hr => s r ?_)
    rw [nI, List.flatMap_cons, List.mem_append]
    exact .inr hr
def aL3 {α : Type} [Enc α] (xss : List (List (List α))) : Abs := ⟨fun v H => ∃ p T, v = .ref p ∧ H p = some (.lst (T.map fun t => .ref t.1)) ∧ gY H T xss ∧ (p :: nI T).Nodup, fun v H H' s z => by
  obtain ⟨p, T, e, h, t, n⟩ := z
  exact ⟨p, T, e, s _ _ h, t.keep fun r _ o z => s _ _ z, n⟩⟩
theorem gY.dp {α : Type} [Enc α] [Flt α] {K : PySem.W.Frag} {H : Hp} {T : T3} {xss : List (List (List α))} (h : gY H T xss) : DpAll K H (T.map fun t => .ref t.1) (xss.map en) := by
  unfold gY at h
  induction h with
  | nil => exact .nil
  | cons a t ih => exact .cons (.lst (SqL.of a.1) a.2.dp) ih
theorem dL.mem' {α : Type} [Enc α] {H : Hp} {rs : List Addr} {xs : List (List α)} (h : dL H rs xs) : ∀ r ∈ rs, ∃ o, H r = some o := by
  unfold dL at h
  induction h with
  | nil => intro r hr; cases hr
  | cons a t ih =>
    intro r hr
    rcases List.mem_cons.mp hr with z | z
    · rw [z]; exact ⟨_, a⟩
    · exact ih r z
theorem gY.mem {α : Type} [Enc α] {H : Hp} {T : T3} {xss : List (List (List α))} (h : gY H T xss) : ∀ a ∈ nI T, ∃ o, H a = some o := by
  unfold gY at h
  induction h with
  | nil => intro a ha; cases ha
  | cons a t ih =>
    intro b hb
    rw [nI, List.flatMap_cons, List.mem_append] at hb
    rcases hb with hb | hb
    · rcases List.mem_cons.mp hb with z | z
      · rw [z]; exact ⟨_, a.1⟩
      · exact a.2.mem' b z
    · exact ih b hb
section
variable {Gw : WK} {H0 : Hp} {ρ ρ' : List Slot} {K : PySem.W.Frag} {f fa fb fc : Bool} {ta tb tc te : TE} {α β γ δ S S1 R : Type} {A : R → Abs} {B : S → List Slot} {t u w : TS} {Ax : α → Abs}
end
end Kj

namespace Kj
open PySem L2
theorem gY.at {α : Type} [Enc α] {H : Hp} : ∀ {T : T3} {xss : List (List (List α))}, gY H T xss → ∀ {m : Nat} {xs : List (List α)}, xss[m]? = some xs → ∃ t, T[m]? = some t ∧ H t.1 = some (.lst (t.2.map .ref)) ∧ dL H t.2 xs
  | _, _, .nil, m, xs, e => by simp at e
  | _, _, .cons a t, 0, xs, e => by simp at e; subst e; exact ⟨_, rfl, a⟩
  | _, _, .cons a t, m + 1, xs, e => gY.at t (by simpa using e)
theorem gY.put {α : Type} [Enc α] {H H' : Hp} {ys : List (List α)} {r : Addr} {t0 : Addr × List Addr} : ∀ {T : T3} {xss : List (List (List α))} {m : Nat}, gY H T xss → (nI T).Nodup → T[m]? = some t0 → r ∈ t0.2 → (∀ a ∈ nI T, a ≠ r → ∀ o, H a = some o → H' a = some o) → dL H' t0.2 ys → gY H' T (xss.set m ys)
  | _, _, m, .nil, _, e, _, _, _ => by simp at e
  | t :: T, _, 0, .cons a tl, nd, e, hr, s, h => by
    simp at e
    subst e
    rw [nI, List.flatMap_cons, List.nodup_append] at nd
    have n1 := (List.nodup_cons.mp nd.1).1
    refine .cons ⟨s _ (by simp) (fun z => n1 (by rw [z]; exact hr)) _ a.1, h⟩ (gY.keep tl fun b hb o q => s b (by rw [nI, List.flatMap_cons, List.mem_append]; exact .inr hb) (fun z => ?_) o q)
    exact nd.2.2 r (List.mem_cons_of_mem _ hr) b hb z.symm
  | t :: T, _, m + 1, .cons a tl, nd, e, hr, s, h => by
    have e' := (by simpa using e : T[m]? = some t0)
    rw [nI, List.flatMap_cons, List.nodup_append] at nd
    have hin : r ∈ nI T := List.mem_flatMap.mpr ⟨t0, List.mem_of_getElem? e', List.mem_cons_of_mem _ hr⟩
    have off : ∀ b ∈ t.1 :: t.2, b ≠ r := fun b hb z => nd.2.2 b hb r hin z
    refine .cons ⟨s _ (by simp) (off _ List.mem_cons_self) _ a.1, a.2.keep fun b hb o q => s b (by simp [hb]) (off b (List.mem_cons_of_mem _ hb)) o q⟩ (gY.put tl nd.2.1 e' hr (fun b hb => s b (by rw [nI, List.flatMap_cons, List.mem_append]; exact .inr hb)) h)
def Cm {α γ : Type} (xss : List (List (List α))) (a b : Int) (v : α) (k : List (List (List α)) → Option γ) : Option γ := (ixN xss.length a).bind fun m => (xss[m]?).bind fun xs => (ixN xs.length b).bind fun n => (xs[n]?).bind fun row => if row.length < 100000 then k (xss.set m (xs.set n (row ++ [v]))) else none
section
variable {Gw : WK} {H0 : Hp} {ρ ρ' : List Slot} {K : PySem.W.Frag} {f fa fb fc : Bool} {ta tb tc te : TE} {α β γ δ S S1 R : Type} {A : R → Abs} {B : S → List Slot} {t u w : TS} {Ax : α → Abs}
end
end Kj

namespace Kj
open PySem PySem.Spec PyProof.Rows L2
section
variable {prog : Program} {w : World} {A : Around} {E : Value → Shared → Prop} {s : Shared}
theorem wL {k : Key} {a : Addr} (h : (mixKind prog w).is k (.ref a) = true) : False := by
  rcases keyIs_shape h with ⟨i, t, rfl, e⟩ | ⟨x, t, rfl, e⟩ <;> cases e
theorem uV {d : Addr} {kvs : List (Key × Value)} {k : Key} {key v : Value} {Q : Unit → Shared → Prop} (hkey : (mixKind prog w).is k key = true) (hm : s.heap.DictOf (mixKind prog w) d kvs)
    (hQ : ∀ h', h'.DictOf (mixKind prog w) d (stored kvs k v) → Heap.SameBut d s.heap h' → Q () { s with heap := h' }) (hsz : kvs.length ≤ sizeLine) :
    wpAny (model prog w) A (dictPut d ((mixKind prog w).hash k) key v) Q E s := by
  obtain ⟨o, es, ep, ho, hc, hd, hk, hp, hn⟩ := hm
  have hes : es.size ≤ sizeLine := by
    have e1 := hp.length
    have e2 : es.toList.length = es.size := by simp
    omega
  unfold dictPut
  refine wpAny_bind (wpAny_dictFind_of hkey ho hd hk ?_)
  have hidx : (es.findIdx? fun e => (mixKind prog w).is k e.key) = kvs.findIdx? fun kv => decide (kv.1 = k) := by
    rw [← hp.findIdx k]; obtain ⟨l⟩ := es; simp
  cases hi : es.findIdx? fun e => (mixKind prog w).is k e.key with
  | some i =>
    refine wpAny_updateDict ho hd (hQ _ ⟨_, _, ep, Heap.get?_update_self _ ho (Obj.isFreed_of_dict (Obj.data_mapDict hd _)),
      hc.mapDict _, Obj.data_mapDict hd _, hk.modify _ _, ?_, ?_⟩ (Heap.SameBut.update ..))
    · rw [stored, if_pos (any_of_findIdx_some (hidx ▸ hi))]
      have hl : (es.toList.findIdx? fun e => (mixKind prog w).is k e.key) = some i := by rw [← hi]; obtain ⟨l⟩ := es; simp
      have := hp.modify hn hl v
      obtain ⟨l⟩ := es
      simpa using this
    · rw [stored, if_pos (any_of_findIdx_some (hidx ▸ hi)), keys_map_store]; exact hn
  | none =>
    have hnot : k ∉ kvs.map (·.1) := not_mem_of_findIdx_none (hidx ▸ hi)
    have hany : ¬ (kvs.any fun kv => decide (kv.1 = k)) = true := by
      rw [List.any_eq_true]; rintro ⟨kv, hkv, he⟩
      exact hnot (List.mem_map.mpr ⟨kv, hkv, of_decide_eq_true he⟩)
    refine wpAny_updateDictKeys (hz := hes) ho hd (hQ _ ⟨_, _, ep + 1, Heap.get?_update_self _ ho (Obj.isFreed_of_dict (Obj.data_mapDictKeys hd _)),
      hc.mapDictKeys _, Obj.data_mapDictKeys hd _, hk.push hkey _, ?_, ?_⟩ (Heap.SameBut.update ..))
    · rw [stored, if_neg hany]
      have := hp.append hkey ((mixKind prog w).hash k) v
      obtain ⟨l⟩ := es
      simpa using this
    · rw [stored, if_neg hany, List.map_append, List.nodup_append]
      refine ⟨hn, by simp, ?_⟩
      intro a ha b hb
      simp only [List.map_cons, List.map_nil, List.mem_singleton] at hb
      subst hb
      exact fun e => hnot (e ▸ ha)
theorem yb {d o : Addr} {kvs more : List (Key × Value)} {Q : Unit → Shared → Prop} (hdo : d ≠ o) (hoS : (o == sysModules) = false)
    (hd : s.heap.DictOf (mixKind prog w) d kvs) (ho : s.heap.DictOf (mixKind prog w) o more)
    (hQ : ∀ h', h'.DictOf (mixKind prog w) d (merged kvs more) → Heap.SameBut d s.heap h' → Q () { s with heap := h' })
    (hsz : kvs.length + more.length ≤ sizeLine) :
    wpAny (model prog w) A (mergeMapping d (.ref o) false) Q E s := by
  obtain ⟨od, esd, epd, hod, hcd, hdd, hkd, hpd, hnd⟩ := id hd
  obtain ⟨oo, eso, epo, hoo, hco, hdo', hko, hpo, hno⟩ := id ho
  have hlen : more.length = eso.size := by rw [← hpo.length]; simp
  unfold mergeMapping
  refine wpAny_bind (wpAny_isInstance ho.typeIs isSubtype_dict_dict ?_)
  dsimp only
  rw [if_pos rfl]
  refine wpAny_bind (wpAny_specialOf ho.typeIs F.slot_dict_iter.lookup ?_)
  refine wpAny_bind (wpAny_pure ?_)
  simp only [beq_self_eq_true]
  rw [if_neg (by rw [hoS]; exact Bool.false_ne_true)]
  have loop : wpAny (model prog w) A (do
      let l ← dictEntries o
      let epoch ← dictEpoch o
      forIn (List.range l.size) PUnit.unit fun i (_ : PUnit) => (do
          let l' ← dictEntries o
          match l'[i]? with
            | some e => do
              holding [e.key, e.val] (dictPut d e.hash e.key e.val)
              let ep' ← dictEpoch o
              if (ep' != epoch) = true then do
                  (unsupported "dict.changed-during-merge" : Sem PUnit)
                  pure (ForInStep.yield PUnit.unit)
                else pure (ForInStep.yield PUnit.unit)
            | _ => do
              (unsupported "dict.changed-during-merge" : Sem PUnit)
              pure (ForInStep.yield PUnit.unit) : Sem (ForInStep PUnit))
      pure ()) Q E s := by
    refine wpAny_bind (wpAny_dictEntries hoo hdo' ?_)
    refine wpAny_bind (wpAny_dictEpoch hoo hdo' ?_)
    refine wpAny_bind ?_
    rw [List.range_eq_range']
    refine wpAny_forIn_list _
      (fun rest _ s' => ∃ h' i, s' = { s with heap := h' } ∧ rest = List.range' i (eso.size - i) ∧ i ≤ eso.size ∧ h'.DictOf (mixKind prog w) d (merged kvs (more.take i)) ∧ h'.get? o = some oo ∧ Heap.SameBut d s.heap h')
      _ ?_ ?_ _ _ ⟨s.heap, 0, rfl, by simp, Nat.zero_le _, by simpa [merged] using hd, hoo, Heap.SameBut.refl _ _⟩
    · rintro x rest b s' ⟨h', i, rfl, hr, hi, hd', hoo', hs'⟩
      have hlt : i < eso.size := by
        rcases Nat.lt_or_ge i eso.size with h | h
        · exact h
        · rw [Nat.sub_eq_zero_of_le h] at hr; simp at hr
      obtain ⟨rfl, hrest⟩ : x = i ∧ rest = List.range' (i + 1) (eso.size - (i + 1)) := by
        have e : eso.size - i = (eso.size - (i + 1)) + 1 := by omega
        rw [e, List.range'_succ] at hr
        injection hr with h1 h2
        exact ⟨h1, h2⟩
      refine wpAny_bind (wpAny_dictEntries hoo' hdo' ?_)
      rw [Array.getElem?_eq_getElem hlt]
      obtain ⟨kv, hkv⟩ : ∃ kv, more[x]? = some kv := ⟨more[x]'(by rw [hlen]; exact hlt), List.getElem?_eq_getElem _⟩
      obtain ⟨k, v⟩ := kv
      obtain ⟨hkey, hval⟩ := hpo.get? (e := eso[x]) (by simp [hlt]) hkv
      obtain ⟨k', hkey', hhash⟩ := hko eso[x] (Array.getElem_mem hlt)
      obtain rfl : k' = k := (mixKind prog w).inj _ _ _ hkey' hkey
      show wpAny _ _ (holding [eso[x].key, eso[x].val] (dictPut d eso[x].hash eso[x].key eso[x].val) >>= _) _ _ _
      rw [hhash, hval]
      have hmx : (merged kvs (more.take x)).length ≤ sizeLine := by
        have e1 := merged_length_le kvs (more.take x)
        have e2 : (more.take x).length ≤ more.length := by rw [List.length_take]; omega
        omega
      refine wpAny_bind (wpAny_holding (uV hkey hd' (fun h'' hd'' hs'' => ?_) hmx))
      have hoo'' : h''.get? o = some oo := (hs''.2 o (Ne.symm hdo)).trans hoo'
      refine wpAny_bind (wpAny_dictEpoch hoo'' hdo' ?_)
      rw [if_neg (by simp)]
      exact wpAny_pure ⟨h'', x + 1, rfl, hrest, hlt, by rw [merged_take_succ kvs more x (k', v) hkv]; exact hd'', hoo'', hs'.trans hs''⟩
    · rintro b s' ⟨h', i, rfl, hr, hi, hd', hoo', hs'⟩
      have hin : i = eso.size := by
        rcases Nat.lt_or_ge i eso.size with h | h
        · have e : eso.size - i = (eso.size - (i + 1)) + 1 := by omega
          rw [e, List.range'_succ] at hr; exact nomatch hr
        · exact Nat.le_antisymm hi h
      refine wpAny_pure (hQ h' ?_ hs')
      rw [hin, ← hlen, List.take_length] at hd'; exact hd'
  refine wpAny_bind (wpAny_dictEntries hod hdd ?_)
  split
  · refine wpAny_bind (wpAny_dictEntries hoo hdo' ?_)
    refine wpAny_bind ?_
    rw [← Array.forIn_toList]
    refine wpAny_forIn_list _ (fun rest _ s' => s' = s ∧ ∀ e ∈ rest, ∀ a, e.key ≠ .ref a) _ ?_ ?_ _ _ ⟨rfl, fun e he a q => ?_⟩
    · rintro x rest b s' ⟨rfl, hx⟩
      have := hx x List.mem_cons_self
      split
      · rename_i a q; exact absurd q (this a)
      · exact wpAny_pure ⟨rfl, fun e he => hx e (List.mem_cons_of_mem _ he)⟩
    · rintro b s' ⟨rfl, _⟩
      exact loop
    · obtain ⟨k', hk', _⟩ := hko e (by simpa using he)
      rw [q] at hk'
      exact wL hk'
  · exact loop
end
end Kj

namespace Kj
open PySem PySem.Spec PyProof.Rows L2
def G9 (P : Program) (w : World) (A : Around) (env : Env) (kx vx : Expr) (acc : Addr) : Rn := fun s Po => wpAny (model P w) A (eval kx env) (fun x s1 => wpAny (model P w) A (eval vx env) (fun y s2 => wpAny (model P w) A (dictSet acc x y) (fun _ s3 => Po s3) FF s2) FF s1) FF s
section
variable {P : Program} {w : World} {A : Around} {env : Env} {c t0 j0 j1 kx vx : Expr} {ifs0 : List Expr} {k : Nat} {it : Addr} {acc : Addr} {pk : Pos}
end
section
variable {P : Program} {w : World} {A : Around} {env : Env} {kx vx t0 i0 t1 i1 : Expr} {f0 f1 : List Expr} {scope : Scope} {pos : Pos} {it : Addr} {acc : Addr}
end
def Iz (tk tv : TE) (D : Addr) : Bd := fun σ H Nx => tk σ H fun y H1 => tv σ H1 fun z H2 => ∃ kvs k, y = kV k ∧ H2 D = some (.dK kvs) ∧ kvs.length < sizeLine ∧ Nx (upd H2 D (.dK (putK kvs k z)))
def HP (wi : TI) (g : TG) (tt : TT) (B : Addr → Bd) (us : List Nat) : TE := fun σ H Q => wi σ H fun J H1 => ∀ D, H1 D = none → LpR J g tt (B D) us σ (upd H1 D (.dK [])) fun H' => ∃ kvs, H' D = some (.dK kvs) ∧ ∀ od, Q (.ref D) (upd H' D (.frz od (.dK kvs)))
section
variable {X : Cx}
end
end Kj

namespace Kj
open PySem PySem.Spec PyProof.Rows L2
section
variable {P : Program} {w : World} {A : Around} {E : Value → Shared → Prop} {s : Shared}
theorem qF {dt kt vt : Sem Value} {Q : Value → Shared → Prop}
    (h : wpAny (model P w) A dt (fun m s1 => ∀ E1 : Value → Shared → Prop, wpAny (model P w) A (mergeMapping s.heap.objs.size m false) (fun _ s2 =>
      wpAny (model P w) A (subDict [(kt, vt)]) (fun S s3 => ∀ E2 : Value → Shared → Prop, wpAny (model P w) A (mergeMapping s.heap.objs.size (.ref S) false) (fun _ s4 => Q (.ref s.heap.objs.size) s4) E2 s3) E s2) E1 s1) E
      { s with heap := s.heap.push { cls := .type "dict", data := .dict #[] } }) :
    wpAny (model P w) A (dictDisplay [(none, dt), (some kt, vt)]) Q E s := by
  unfold dictDisplay
  simp only [List.forIn_cons, List.forIn_nil, List.isEmpty_nil, if_true, bind_assoc, pure_bind, List.nil_append, List.length_singleton]
  refine wpAny_bind (wpAny_alloc ?_)
  refine wpAny_bind (wpAny_holding (thn h fun m s1 h1 => ?_))
  refine wpAny_bind (wpAny_onRaise (wpAny_tryCatch (wpAny_onRaise (wpAny_holding (thn (h1 _) fun _ s2 h2 => ?_)))))
  rw [if_neg (by decide)]
  simp only [pure_bind, List.isEmpty_cons, Bool.false_eq_true, if_false, bind_assoc]
  refine wpAny_bind (wpAny_holding (thn h2 fun S s3 h3 => ?_))
  refine wpAny_bind (wpAny_onRaise (wpAny_holding (thn (h3 _) fun _ s4 h4 => ?_)))
  exact wpAny_pure h4
end
def ou (td tk tv : TE) : TE := fun σ H Q => ∀ D, H D = none → td σ (upd H D (.dK [])) fun x H1 => ∃ a kvs, x = .ref a ∧ Rd H1 a (.dK kvs) ∧ D ≠ a ∧ H1 D = some (.dK []) ∧ kvs.length < 100000 ∧
  ∀ S, H1 S = none → tk σ (upd (upd H1 D (.dK (mergeK [] kvs))) S (.dK [])) fun y H2 => tv σ H2 fun z H3 => ∃ k, y = kV k ∧ H3 S = some (.dK []) ∧ H3 D = some (.dK (mergeK [] kvs)) ∧
    ∀ od, Q (.ref D) (upd (upd H3 S (.dK [(k, z)])) D (.frz od (.dK (putK (mergeK [] kvs) k z))))
section
variable {X : Cx}
theorem tw {pins : List (Addr × Obj)} {σ : L2.St} {H : Hp} {s : Shared} {D a : Addr} {kvs more : List (Key × V)} {A : Around} {E : Value → Shared → Prop} {Q : Unit → Shared → Prop} (I : Inv X pins σ H s) (hD : H D = some (.dK kvs)) (ha : Rd H a (.dK more)) (ne : D ≠ a) (hz : kvs.length + more.length ≤ 200000)
    (h : ∀ s', Inv X pins σ (upd H D (.dK (mergeK kvs more))) s' → Q () s') : wpAny (model X.prog X.w) A (mergeMapping D (.ref a) false) Q E s := by
  obtain ⟨z1, hd1, vs1, r1, dd1⟩ := dk_of I.hok hD
  obtain ⟨z2, hd2, vs2, r2, dd2⟩ := dk_rd I.hok ha
  have sl : (200000 : Nat) ≤ sizeLine := by rw [sizeLine_eq]; decide
  refine yb ne hd2 dd1 dd2 (fun h' dd' hs => ?_) (by rw [← r1.length, ← r2.length]; omega)
  have lm := length_mergeK more kvs
  exact h _ (d_write (t' := s.toks) I (by rw [hD]; exact True.intro) hs (let ⟨q, _, _, hq, _⟩ := dd'; ⟨q, hq⟩) (dk_new (by omega) hd1 (r2.merge r1) dd'))
theorem wE {d k v : Expr} {td tk tv : TE} {pos : Pos} (hd : PE X d td) (hk : PE X k tk) (hv : PE X v tv) : PE X (.Dict [none, some k] [d, v] pos) (ou td tk tv) := by
  refine ⟨fun pins s σ H Q I q => ?_⟩
  rw [arm_eval_Dict]
  refine wpAny_bind (wpAny_standAt ?_)
  refine qF ?_
  generalize hD : s.heap.objs.size = D
  have hDn : H D = none := I.hok.fresh (Nat.le_of_eq hD)
  have I0 : Inv X pins σ (upd H D (.dK [])) { s with heap := s.heap.push { cls := .type "dict", data := .dict #[] } } :=
    I.laid (t' := s.toks) (fun b o e => Heap.get?_push_of_some _ e) (Nat.le_of_eq hD) (by rw [← hD]; exact dk_empty s.heap I.big)
  refine wpAny_bind (thn (hd.run pins _ σ _ _ I0 (q D hDn)) fun xv s1 ⟨x, H1, I1, rx, a, kvs, ex, ha, ne, hD1, hl, q1⟩ => ?_)
  subst ex
  obtain rfl : xv = Value.ref a := rx
  refine wpAny_bind (wpAny_standAt (wpAny_pure fun E1 => ?_))
  refine tw I1 hD1 ha ne (by rw [List.length_nil]; omega) fun s2 I2 => ?_
  have lm := length_mergeK kvs []
  rw [List.length_nil] at lm
  refine wpAny_subDict_any (by show 1 ≤ 15; omega) ?_
  generalize hS : s2.heap.objs.size = S
  have hSn : upd H1 D (.dK (mergeK [] kvs)) S = none := I2.hok.fresh (Nat.le_of_eq hS)
  have I3 : Inv X pins σ (upd (upd H1 D (.dK (mergeK [] kvs))) S (.dK [])) { s2 with heap := s2.heap.push { cls := .type "dict", data := .dict #[] } } :=
    I2.laid (t' := s2.toks) (fun b o e => Heap.get?_push_of_some _ e) (Nat.le_of_eq hS) (by rw [← hS]; exact dk_empty s2.heap I2.big)
  have DS : D ≠ S := fun z => by rw [← z, upd_same] at hSn; cases hSn
  have hS1 : H1 S = none := by rw [upd_ne (Ne.symm DS)] at hSn; exact hSn
  refine evalPairs_cons (thn (hk.run pins _ σ _ _ I3 (q1 S hS1)) fun yv s4 ⟨y, H2, I4, ry, q2⟩ => wpAny_bind (thn (hv.run pins s4 σ H2 _ I4 q2) fun zv s5 ⟨z, H3, I5, rz, k', ek, hS3, hD3, q3⟩ => wpAny_bind (wpAny_standAt (wpAny_pure (evalPairs_nil ?_)))))
  subst ek
  obtain ⟨z0, hs0, vs0, r0, dd0⟩ := dk_of I5.hok hS3
  cases r0
  refine (wpAny_storeAll (knd := mixKind X.prog X.w) [(yv, zv)] [(k', zv)] [] s5 _ ⟨kV_is ry, rfl, True.intro⟩ dd0 (by rw [sizeLine_eq]; show 0 + 1 ≤ 16777216; omega) fun h' dd' hsb => ?_ : wpAny _ _ (storeAll S [(yv, zv)]) _ _ _)
  intro E2
  have rel : KV [(k', z)] (merged [] [(k', zv)]) := by
    have := (KV.put (κ := Key) (kvs := []) (vs := []) .nil k' rz)
    simpa [putK, merged, stored] using this
  have I6 : Inv X pins σ (upd H3 S (.dK [(k', z)])) { s5 with heap := h', toks := s5.toks + 1 } :=
    d_write (t' := s5.toks + 1) I5 (by rw [hS3]; exact True.intro) hsb (let ⟨q, _, _, hq, _⟩ := dd'; ⟨q, hq⟩) (dk_new (by rw [sizeLine_eq]; show 1 ≤ 16777216; omega) hs0 rel dd')
  refine tw I6 (kvs := mergeK [] kvs) (by rw [upd_ne DS]; exact hD3) (.inl upd_same) DS (by simp only [List.length_singleton]; omega) fun s7 I7 => ?_
  have em : mergeK (mergeK [] kvs) [(k', z)] = putK (mergeK [] kvs) k' z := rfl
  rw [em] at I7
  obtain ⟨od, I8⟩ := I7.lock upd_same trivial
  refine ⟨.ref D, _, I8, rfl, ?_⟩
  have eu : upd (upd (upd H3 S (.dK [(k', z)])) D (.dK (putK (mergeK [] kvs) k' z))) D (.frz od (.dK (putK (mergeK [] kvs) k' z))) = upd (upd H3 S (.dK [(k', z)])) D (.frz od (.dK (putK (mergeK [] kvs) k' z))) := by
    funext b
    by_cases e : b = D
    · subst e; rw [upd_same, upd_same]
    · rw [upd_ne e, upd_ne e, upd_ne e]
  rw [eu]
  exact q3 od
end
end Kj

namespace Kj
open PySem L2
abbrev Dm (α : Type) := List (Int × α)
def valD {α : Type} (m : Dm α) (k : Int) : Option α := (m.find? fun x => decide (x.1 = k)).map (·.2)
def xN {α : Type} (m : Dm α) (k : Int) (v : α) : Dm α := if (m.any fun x => decide (x.1 = k)) = true then m.map (fun x => if x.1 = k then (x.1, v) else x) else m ++ [(k, v)]
def rH {α : Type} (m more : Dm α) : Dm α := more.foldl (fun acc x => xN acc x.1 x.2) m
def enP {α : Type} [Enc α] (x : Int × α) : Int × PyData := (x.1, en x.2)
def DRd (K : PySem.W.Frag) (H : Hp) (kvs : List (Key × V)) (m : Dm PyData) : Prop := Paired (fun (p : Key × V) (x : Int × PyData) => p.1 = Sum.inl x.1 ∧ Dp K H p.2 x.2) kvs m
theorem DRd.keep {K : PySem.W.Frag} {H H' : Hp} (s : Same H H') {kvs : List (Key × V)} {m : Dm PyData} (h : DRd K H kvs m) : DRd K H' kvs m := by
  unfold DRd at *
  induction h with
  | nil => exact .nil
  | cons a t ih => exact .cons ⟨a.1, dE s _ _ a.2⟩ ih
theorem DRd.app {K : PySem.W.Frag} {H : Hp} {kvs ls : List (Key × V)} {m n : Dm PyData} (h : DRd K H kvs m) (h2 : DRd K H ls n) : DRd K H (kvs ++ ls) (m ++ n) := by
  unfold DRd at *
  induction h with
  | nil => exact h2
  | cons a t ih => exact .cons a ih
theorem DRd.any {K : PySem.W.Frag} {H : Hp} {kvs : List (Key × V)} {m : Dm PyData} (h : DRd K H kvs m) (k : Int) : (kvs.any fun kv => decide (kv.1 = (Sum.inl k : Key))) = m.any fun x => decide (x.1 = k) := by
  unfold DRd at h
  induction h with
  | nil => rfl
  | @cons p x ps xs a t ih =>
    rw [List.any_cons, List.any_cons, ih, a.1]
    congr 1
    by_cases e : x.1 = k
    · rw [decide_eq_true e, decide_eq_true (by rw [e])]
    · rw [decide_eq_false e, decide_eq_false (fun z => e (Sum.inl.inj z))]
theorem DRd.put {K : PySem.W.Frag} {H : Hp} {kvs : List (Key × V)} {m : Dm PyData} (h : DRd K H kvs m) {k : Int} {v : V} {d : PyData} (hv : Dp K H v d) : DRd K H (putK kvs (Sum.inl k) v) (xN m k d) := by
  unfold putK xN
  rw [h.any k]
  by_cases e : (m.any fun x => decide (x.1 = k)) = true
  · rw [if_pos e, if_pos e]
    clear e
    unfold DRd at *
    induction h with
    | nil => exact .nil
    | @cons p x ps xs a t ih =>
      rw [List.map_cons, List.map_cons]
      refine .cons ?_ ih
      by_cases e : x.1 = k
      · rw [if_pos (by rw [a.1, e]), if_pos e]; exact ⟨a.1, hv⟩
      · rw [if_neg (by rw [a.1]; exact fun z => e (Sum.inl.inj z)), if_neg e]; exact a
  · rw [if_neg e, if_neg e]
    exact Paired.snoc h ⟨rfl, hv⟩
theorem DRd.merge {K : PySem.W.Frag} {H : Hp} {ls : List (Key × V)} {n : Dm PyData} (h2 : DRd K H ls n) : ∀ {kvs : List (Key × V)} {m : Dm PyData}, DRd K H kvs m → DRd K H (mergeK kvs ls) (rH m n) := by
  unfold DRd at h2
  induction h2 with
  | nil => intro kvs m h; exact h
  | @cons p x ps xs a t ih =>
    intro kvs m h
    show DRd K H (mergeK (putK kvs p.1 p.2) ps) (rH (xN m x.1 x.2) xs)
    rw [a.1]
    exact ih (h.put a.2)
theorem DRd.val {K : PySem.W.Frag} {H : Hp} {kvs : List (Key × V)} {m : Dm PyData} (h : DRd K H kvs m) (k : Int) : (∃ v d, valV kvs (Sum.inl k : Key) = some v ∧ valD m k = some d ∧ Dp K H v d) ∨ (valV kvs (Sum.inl k : Key) = none ∧ valD m k = none) := by
  unfold DRd at h
  induction h with
  | nil => exact .inr ⟨rfl, rfl⟩
  | @cons p x ps xs a t ih =>
    by_cases e : x.1 = k
    · exact .inl ⟨p.2, x.2, by simp [valV, List.find?_cons, a.1, e], by simp [valD, List.find?_cons, e], a.2⟩
    · have e' : ¬ p.1 = (Sum.inl k : Key) := by rw [a.1]; exact fun z => e (Sum.inl.inj z)
      have h1 : valV (p :: ps) (Sum.inl k : Key) = valV ps (Sum.inl k) := valV_neg e'
      have h2 : valD (x :: xs) k = valD xs k := by simp [valD, List.find?_cons, e]
      rw [h1, h2]; exact ih
def aDd (K : PySem.W.Frag) (m : Dm PyData) : Abs := ⟨fun v H => ∃ p od kvs, v = .ref p ∧ H p = some (.frz od (.dK kvs)) ∧ DRd K H kvs m, fun v H H' s z => by
  obtain ⟨p, od, kvs, e, h, r⟩ := z
  exact ⟨p, od, kvs, e, s _ _ h, r.keep s⟩⟩
abbrev aDm {α : Type} [Enc α] (K : PySem.W.Frag) (m : Dm α) : Abs := aDd K (m.map enP)
def GX (K : PySem.W.Frag) (H0 : Hp) (ρ : List Slot) (f : Bool) (B : Addr → Bd) (ys : Dm PyData) : Prop :=
  ∀ (D : Addr) (σ : St) (H Hr : Hp) (acc : List (Key × V)) (Nx : Hp → Prop), EnvOk H0 σ ρ H Hr → mX ρ σ D → H0 D = none → Hr D = none → H D = some (.dK acc) → acc.length + ys.length ≤ 100000 →
    (∀ H' Hr' zs, ExtX D H Hr H' Hr' → Hr' D = none → H' D = some (.dK (mergeK acc zs)) → DRd K (hp f Hr' H0) zs ys → Nx H') → B D σ H Nx
def Gb (ys : Nat → Dm PyData) : Nat → Dm PyData
  | 0 => []
  | n + 1 => Gb ys n ++ ys n
theorem DRd.length {K : PySem.W.Frag} {H : Hp} {kvs : List (Key × V)} {m : Dm PyData} (h : DRd K H kvs m) : kvs.length = m.length := Paired.length h
section
variable {H0 : Hp} {ρ ρ' : List Slot} {K : PySem.W.Frag} {f fa fb fk : Bool} {ta tb te tk tv td : TE} {α β γ : Type}
def Fm {β : Type} (xs : Dm β) : Option (Dm β) := if xs.length ≤ 100000 then some (rH [] xs) else none
def pr1 {β : Type} (k : Int) (v : β) : Option (Dm β) := some [(k, v)]
def IM (K : PySem.W.Frag) (H0 : Hp) (ρ : List Slot) (f : Bool) (B : Addr → Bd) {β : Type} [Enc β] (m : Option (Dm β)) : Prop := ∀ ys, m = some ys → GX K H0 ρ f B (ys.map enP)
def Fy {α : Type} (m : Dm α) (k : Int) : Option α := valD m k
def Fw {α : Type} (m : Dm α) (k : Int) : Option Bool := some (valD m k).isSome
def Dc {α : Type} (m : Dm α) (k : Int) : Option (Option α) := some (valD m k)
def FL {α : Type} (m : Dm α) (k : Int) (v : α) : Option (Dm α) := if m.length < 50000 then some (xN (rH [] m) k v) else none
def C4 {α : Type} (m : Dm α) : Option (List (P2 Int α)) := some (m.map fun x => ⟨x.1, x.2⟩)
theorem DRd.at {K : PySem.W.Frag} {H : Hp} : ∀ {kvs : List (Key × V)} {m : Dm PyData}, DRd K H kvs m → ∀ {j : Nat} {k : Key} {v : V}, kvs[j]? = some (k, v) → ∃ x, m[j]? = some x ∧ k = Sum.inl x.1 ∧ Dp K H v x.2
  | _, _, .nil, j, _, _, e => by simp at e
  | _, _, .cons a t, 0, _, _, e => by simp at e; subst e; exact ⟨_, rfl, a.1, a.2⟩
  | _, _, .cons a t, j + 1, _, _, e => DRd.at t (j := j) (by simpa using e)
end
end Kj

namespace Kj
open PySem L2
def AK (fm : (P2 Int Int)) (bF : (P2 Int Int)) : Option (P2 Int Int) := ba (S := Unit) (R := (P2 Int Int)) 
  (b1 (fun r => some (Fl.rt r)) (b2 uA (some fm) (b2 mk2 (b1 jY ((some bF).map P2.a)) ((some bF).map P2.b))))
def Di (fm : (P2 Int Int)) (bF : (P2 Int Int)) : Option Bool := ba (S := Unit) (R := Bool) 
  (b1 (fun r => some (Fl.rt r)) (b2 ltI ((b2 AK (some fm) (some bF)).map P2.a) (some (0 : Int))))
def vP (bv : BookT) (a_ : (List Int)) : Option (Dm (List (P2 Int Int))) := ba (S := Unit) (R := (Dm (List (P2 Int Int)))) 
  (b1 (fun bL => (b1 (fun r => some (Fl.rt r)) (b1 Fm (b1 (lS fun x1 => a9 (some true) (b2 pr1 (some x1) (b1 (lcM fun x2 => lcE (b2 neM (some x2) (some x1)) (b2 mk2 (some x2) (b3 jF (some bv) (some x1) (some x2)))) (some bL))) (some [])) (some bL)))))
    (b2 i6 (some bv) (some a_)))
def vO (aI : DealT) : Option (Dm Int) := ba (S := Unit) (R := (Dm Int)) 
  (b1 (fun r => some (Fl.rt r)) (b1 Fm (b1 (lS fun x1 => a9 (some true) (b1 (lS fun x2 => a9 (some true) (b2 pr1 (some x2) (some x1)) (some [])) (b2 eL (some aI) (some x1))) (some [])) (b1 rngM (some (2 : Int))))))
def mr (mZ : (Dm (List (P2 Int Int)))) (e_ : (Dm Int)) : Option (P2 Int Int) := ba (S := Unit) (R := (P2 Int Int)) 
  (b1 (fun jO => (ah (S1 := (P2 Int Int)) (b1 (fun xs => cD (fun x2 s1 => (ah (S1 := (P2 Int Int)) (a9 (b2 (fun i m => Fw m i) (some x2.a) (some e_))
    (b1 (fun kW => (b1 (fun jO => (some (Fl.nx jO)))
    (b2 uA (some s1) (b1 nP (some kW)))))
    (b1 (lcM fun x8 => lcE (b2 neM (b2 Dc (some e_) (some x8.a)) ((b2 Fy (some e_) (some x2.a)).map some)) (some x8.b)) (some x2.b)))
    (some (Fl.nx s1))) fun s7 => (some (Fl.nx s7)))) xs jO) (b1 C4 (some mZ))) fun s1 => (b1 (fun r => some (Fl.rt r)) (some s1))))
    (some (⟨0, 1⟩ : P2 Int Int)))
def EH (aI : DealT) (a_ : (List Int)) : Option (P2 Int Int) := ba (S := Unit) (R := (P2 Int Int)) 
  (b1 (fun r => some (Fl.rt r)) (b2 mr (b2 vP (b1 bA (some aI) ) (some a_)) (b1 vO (some aI))))
def Ce (aI : DealT) (a_ : (List Int)) (cz : Int) : Option (Option (P2 Int (P2 Int Int))) := ba (S := Unit) (R := (Option (P2 Int (P2 Int Int)))) 
  (b1 (fun mZ => (b1 (fun lY => (b1 (fun e_ => (b1 (fun ud => (ah (S1 := (Option (P2 Int (P2 Int Int)))) (b1 (fun xs => cD (fun x2 s1 => (b1 (fun xm => (ah (S1 := (Option (P2 Int (P2 Int Int)))) (a9 (orM ((some s1).map Option.isNone) (b2 Di (some xm) (((some s1).bind id).map P2.b)))
    (b1 (fun ud => (some (Fl.nx ud)))
    ((b2 mk2 (some x2) (some xm)).map some))
    (some (Fl.nx s1))) fun s4 => (some (Fl.nx s4))))
    (b2 mr (some mZ) (b3 FL (some e_) (some x2) (b2 jT (some (1 : Int)) (some cz)))))) xs ud) (some lY)) fun s1 => (b1 (fun r => some (Fl.rt r)) (some s1))))
    (some (none : (Option (P2 Int (P2 Int Int)))))))
    (b1 vO (some aI))))
    (b1 vo (b2 eL (some aI) (some cz)))))
    (b2 vP (b1 bA (some aI) ) (some a_)))
end Kj

namespace Kj
open PySem L2
def RA (W : WX) (H0 : Hp) (ρ : List Slot) (t : TA) (X : XA) : Prop := ∀ (σ : St) (H Hr : Hp) (Q : List V → Hp → Prop), EnvOk H0 σ ρ H Hr → (∀ cls d H' Hr', Ext H Hr H' Hr' → X cls d H' → W cls d σ H') → t σ H Q
section
variable {W : WX} {H0 : Hp} {ρ : List Slot} {K : PySem.W.Frag} {f fa : Bool} {ta te : TE} {t : TA} {X : XA} {α : Type} {A : α → Abs}
end
end Kj

namespace Kj
open PySem L2
def aAl {α : Type} [Enc α] (r : Addr) (m n : Nat) (xss : List (List (List α))) (row : List α) : Abs := ⟨fun v H => ∃ p T t0 xs, v = .ref p ∧ H p = some (.lst (T.map fun t => .ref t.1)) ∧ gY H T xss ∧ (p :: nI T).Nodup ∧ T[m]? = some t0 ∧ t0.2[n]? = some r ∧ xss[m]? = some xs ∧ xs[n]? = some row, fun v H H' s z => by
  obtain ⟨p, T, t0, xs, e, h, t, nd, z⟩ := z
  exact ⟨p, T, t0, xs, e, s _ _ h, t.keep fun r _ o z => s _ _ z, nd, z⟩⟩
def ED {α γ : Type} (xss : List (List (List α))) (a b : Int) (k : Nat → Nat → List α → Option γ) : Option γ := (ixN xss.length a).bind fun m => (xss[m]?).bind fun xs => (ixN xs.length b).bind fun n => (xs[n]?).bind fun row => k m n row
def Fb {α : Type} (xss : List (List (List α))) (m n : Nat) (row : List α) : List (List (List α)) := xss.set m ((xss.getD m []).set n row)
def C5 {γ : Type} {α : Type} (xss : List (List (List α))) (m n : Nat) (row : List α) (i : Int) (v : α) (k : List (List (List α)) → Option γ) : Option γ := if row.length < 100000 ∧ 0 ≤ i ∧ i < 1000000 then k (Fb xss m n (row.take i.toNat ++ [v] ++ row.drop i.toNat)) else none
section
variable {Gw : WK} {H0 : Hp} {ρ ρ' : List Slot} {K : PySem.W.Frag} {f fa fb fc : Bool} {ta tb tc te : TE} {α β γ δ S S1 R : Type} {A : R → Abs} {B : S → List Slot} {t u w : TS} {Ax : α → Abs}
end
end Kj

namespace Kj
open PySem L2
def oLA {α : Type} (Ax : α → Abs) (xs : List α) : AbsO := ⟨fun _ o H => ∃ vs, o = .lst vs ∧ AllP (xs.map Ax) vs H, fun _ _ _ _ s ⟨vs, e, h⟩ => ⟨vs, e, h.mono s⟩⟩
theorem AllP.snoc {H : Hp} : ∀ {As : List Abs} {vs : List V} {A : Abs} {v : V}, AllP As vs H → A.p v H → AllP (As ++ [A]) (vs ++ [v]) H
  | _, _, _, _, .nil, h => .cons h .nil
  | _, _, _, _, .cons a t, h => .cons a (AllP.snoc t h)
section
variable {Gw : WK} {H0 : Hp} {ρ ρ' : List Slot} {K : PySem.W.Frag} {f fa fb fc : Bool} {ta tb tc te : TE} {α β γ δ S S1 R : Type} {A : R → Abs} {B : S → List Slot} {t u w : TS} {Ax : α → Abs}
theorem AllP.at {H : Hp} : ∀ {As : List Abs} {vs : List V}, AllP As vs H → ∀ {j : Nat} {A : Abs}, As[j]? = some A → ∃ v, vs[j]? = some v ∧ A.p v H
  | _, _, .nil, j, A, e => by simp at e
  | _, _, .cons a t, 0, A, e => by simp at e; subst e; exact ⟨_, rfl, a⟩
  | _, _, .cons a t, j + 1, A, e => AllP.at t (j := j) (by simpa using e)
end
end Kj

namespace Kj
open PySem L2
section
variable {H0 : Hp} {ρ ρ' : List Slot} {K : PySem.W.Frag} {f fa fb fc : Bool} {ta tb tc td te : TE} {α β γ δ ε : Type}
variable {A1 : α → Abs} {B1 : β → Abs} {D1 : δ → Abs} {E1 : ε → Abs} {C1 : γ → Abs} {Ex : XK} {ma : Option α} {mb : Option β} {md : Option δ} {me : Option ε}
variable {Cl : Addr} {m : Str} {O : α → List (Str × Abs)}
end
end Kj

namespace Kj
open PySem L2
def mC (lY : (List Int)) : Option Unit := jr (S := Unit) 
  (ah (S1 := Unit) (a9 (b2 geI (b1 b7 (some lY)) (some (12 : Int)))
    none
    (some (Fl.nx ()))) fun s1 => (some (Fl.nx ())))
def d7 (aI : DealT) (ak : Int) : Option (List (List (List Int))) := ba (S := Unit) (R := (List (List (List Int)))) 
  (b1 (fun r => some (Fl.rt r)) (b1 (lcM fun x1 => lcE (some true) (b1 (lcM fun x2 => lcE (some true) (b1 (lcM fun x3 => lcE (b2 neM (some x3) (some ak)) (some x3)) (some x2))) (b2 dZ (some aI) (some x1)))) (b1 rngM (some (2 : Int)))))
def tU (ac : DealT) (ak : Int) (dF : Int) : Option DealT := ba (S := Unit) (R := DealT) 
  (b1 (fun bF => (b1 (fun _ => (b1 (fun cb => (b1 (fun _ => (b3 (fun a b v => Cm cb a b v fun cb => (b1 (fun r => some (Fl.rt r)) (b3 dO ((some ac).map DealT.source) (b2 atI (some cb) (some (0 : Int))) (b2 atI (some cb) (some (1 : Int)))))) (some bF) (some dF) (some ak))) (b1 mC (b2 atI (b2 atI (some cb) (some bF)) (some dF)))))
    (b2 d7 (some ac) (some ak)))) (b3 kJ (some ac) (some bF) (some dF))))
    (b2 jT (some (1 : Int)) (b2 iN (some ac) (some ak))))
def r_ (ac : DealT) (ak : Int) (dF : Int) (gu : Int) : Option DealT := ba (S := Unit) (R := DealT) 
  (b1 (fun cz => (b1 (fun _ => (b1 (fun cb => (b2 (fun a b => ED cb a b fun m_v_cards n_v_cards h9 => (b1 (fun _ => (ah (S1 := Unit) (a9 (dC (chM leI leI (some (0 : Int)) (some gu) (b1 b7 (some h9))))
    none
    (some (Fl.nx ()))) fun s1 => (b2 (fun a b => C5 cb m_v_cards n_v_cards h9 a b fun cb => (b1 (fun r => some (Fl.rt r)) (b3 dO ((some ac).map DealT.source) (b2 atI (some cb) (some (0 : Int))) (b2 atI (some cb) (some (1 : Int)))))) (some gu) (some ak)))) (b1 mC (some h9)))) (some cz) (some dF)))
    (b2 d7 (some ac) (some ak)))) (b3 kJ (some ac) (some cz) (some dF))))
    (b2 iN (some ac) (some ak)))
end Kj

namespace Kj
open PySem L2
inductive Ch where
  | w (v : Int)
  | s (v r : Int)
  | m (v r p : Int)
  deriving DecidableEq
def Ch.tag : Ch → Str | .w _ => "without" | .s _ _ => "sent" | .m _ _ _ => "moved"
def Ch.v : Ch → Int | .w v => v | .s v _ => v | .m v _ _ => v
def Ch.r : Ch → Option Int | .w _ => none | .s _ r => some r | .m _ r _ => some r
def Ch.p : Ch → Option Int | .w _ => none | .s _ _ => none | .m _ _ p => some p
def Ch.enc : Ch → PyData
  | .w v => .tuple [.str "without", .int v]
  | .s v r => .tuple [.str "sent", .int v, .int r]
  | .m v r p => .tuple [.str "moved", .int v, .int r, .int p]
instance : Enc Ch := ⟨Ch.enc, fun x => by cases x <;> simp [Ch.enc, PyData.plain, PyData.plainAll], 1, fun x => by cases x <;> simp [Ch.enc, PyData.depth, PyData.depthAll], fun x y => by
  cases x <;> cases y <;> simp [Ch.enc, PyData.eqv, PyData.eqvAll]⟩
instance : EncN Ch := ⟨fun x => by cases x <;> exact ⟨by show PyData.eqv .none (.tuple _) = false; simp [PyData.eqv], by show PyData.eqv (.tuple _) .none = false; simp [PyData.eqv], rfl⟩⟩
def chW (v : Int) : Option Ch := some (.w v)
def chS (v r : Int) : Option Ch := some (.s v r)
def Ix (v r p : Int) : Option Ch := some (.m v r p)
def IG {α : Type} (_ : α) : Abs := ⟨fun _ _ => True, fun _ _ _ _ _ => trivial⟩
section
variable {H0 : Hp} {ρ : List Slot} {K : PySem.W.Frag} {f fa fb fc : Bool} {ta tb tc te : TE} {α : Type} {A : α → Abs}
end
section
variable {W : WX} {H0 : Hp} {ρ ρ' : List Slot} {K : PySem.W.Frag} {f f' fa fb fc fd fe : Bool} {te t' ta tb tc td : TE} {X : XA} {α β γ δ ε : Type} {B : β → Abs} {R : γ → Abs} {D : δ → Abs} {E' : ε → Abs} {C : Addr} {O : α → List (Str × Abs)} {m : Str}
end
end Kj

namespace Kj
open PySem L2
def fO (ac : BookT) : Option (List (List Str)) := ba (S := Unit) (R := (List (List Str))) 
  (b1 (fun r => some (Fl.rt r)) (b1 (lcM fun x1 => lcE (some true) (b1 jh (some x1))) ((some ac).map BookT.lines)))
def yK (ac : DealT) (cz : Int) : Option (Rs (List Int)) := ig (S := Unit) (R := (List Int)) 
  (bX (fun r => some (Fl.rt r)) (rsM (fun mz => (b1 lim (b1 (lS fun x1 => a9 (some true) (b1 (lS fun x2 => a9 (some true) (b1 wG (some x2)) (some [])) (some x1)) (some [])) mz))) (b2 lq (some ac) (some cz))))
def kK (lY : (List Int)) : Option (Rs Unit) := eY (S := Unit) 
  (ah (S1 := Unit) (a9 (b2 geI (b1 b7 (some lY)) (some (12 : Int)))
    (some (Fl.ex ⟨"Full", []⟩))
    (some (Fl.nx ()))) fun s1 => (some (Fl.nx ())))
def yJ (ac : DealT) (bL : (List Int)) : Option (Rs (List (P4 Int Int Int Int))) := ig (S := Unit) (R := (List (P4 Int Int Int Int))) 
  (bX (fun oM => (b1 (fun iR => (ah (S1 := (List (P4 Int Int Int Int))) (b1 (fun xs => cD (fun x2 s1 => (ah (S1 := (List (P4 Int Int Int Int))) (b1 (fun xs => cD (fun x10 s9 => (b1 (fun e_ => (ah (S1 := (List (P4 Int Int Int Int))) (a9 ((some e_).map fun xs => !xs.isEmpty)
    (b1 (fun x => kU s9 x fun iR => (some (Fl.nx iR))) (b4 mk4 (some x2.a) (some x10.a) (b2 atI (some e_) (some (0 : Int))) (b2 atI (some e_) (b1 jY (some (1 : Int))))))
    (some (Fl.nx s9))) fun s14 => (some (Fl.nx s14))))
    (b1 (lcM fun x13 => lcE (b2 inM (some x13.b) (some oM)) (some x13.a)) (b1 gX (some x10.b))))) xs s1) (b1 gX (some x2.b))) fun s9 => (some (Fl.nx s9)))) xs iR) (b1 gX ((some ac).map DealT.fields))) fun s1 => (b1 (fun r => some (Fl.rt r)) (some s1)))) (some ([] : (List (P4 Int Int Int Int))))))
    (b2 lO ((some ac).map DealT.source) (some bL)))
def wW (ac : DealT) (ak : Int) : Option (Rs DealT) := ig (S := Unit) (R := DealT) 
  (bX (fun _ => (b1 (fun cb => (b1 (fun r => some (Fl.rt r)) (b3 dO ((some ac).map DealT.source) (b2 atI (some cb) (some (0 : Int))) (b2 atI (some cb) (some (1 : Int))))))
    (b2 d7 (some ac) (some ak)))) (b2 hM (some ac) (some ak)))
def qE (ac : DealT) (ak : Int) (dF : Int) : Option (Rs DealT) := ig (S := Unit) (R := DealT) 
  (bX (fun bF => (bX (fun _ => (b1 (fun cb => (bX (fun _ => (b3 (fun a b v => Cm cb a b v fun cb => (b1 (fun r => some (Fl.rt r)) (b3 dO ((some ac).map DealT.source) (b2 atI (some cb) (some (0 : Int))) (b2 atI (some cb) (some (1 : Int)))))) (some bF) (some dF) (some ak))) (b1 kK (b2 atI (b2 atI (some cb) (some bF)) (some dF)))))
    (b2 d7 (some ac) (some ak)))) (b3 jt (some ac) (some bF) (some dF))))
    (rsM (fun mz => (b2 jT (some (1 : Int)) mz)) (b2 hM (some ac) (some ak))))
def pN (ac : DealT) (ak : Int) (dF : Int) (gu : Int) : Option (Rs DealT) := ig (S := Unit) (R := DealT) 
  (bX (fun cz => (bX (fun _ => (b1 (fun cb => (b2 (fun a b => ED cb a b fun m_v_cards n_v_cards h9 => (bX (fun _ => (ah (S1 := Unit) (a9 (dC (chM leI leI (some (0 : Int)) (some gu) (b1 b7 (some h9))))
    (some (Fl.ex ⟨"NoPlace", []⟩))
    (some (Fl.nx ()))) fun s1 => (b2 (fun a b => C5 cb m_v_cards n_v_cards h9 a b fun cb => (b1 (fun r => some (Fl.rt r)) (b3 dO ((some ac).map DealT.source) (b2 atI (some cb) (some (0 : Int))) (b2 atI (some cb) (some (1 : Int)))))) (some gu) (some ak)))) (b1 kK (some h9)))) (some cz) (some dF)))
    (b2 d7 (some ac) (some ak)))) (b3 jt (some ac) (some cz) (some dF))))
    (b2 hM (some ac) (some ak)))
def cW (cu : BookT) (aa : (List (List Str))) : Option Bool := ba (S := Unit) (R := Bool) 
  (ah (S1 := Unit) (a9 (orM (dC (b2 ez (b1 dh (some cu) ) (b1 b7 (some aa)))) (dC (b2 ez (b1 fO (some cu) ) (some aa))))
    (b1 (fun r => some (Fl.rt r)) (some false))
    (some (Fl.nx ()))) fun s1 => (b1 (fun r => some (Fl.rt r)) (b1 nH (b1 (lcM fun x2 => lcE (some true) (b2 ez (b2 bM (some cu) (some x2)) (b2 atI (some aa) (some x2)))) (b1 rngM (b1 b7 (some aa)))))))
def xf (eQ : DealT) (aa : (List (List Str))) (aj : (List (List (List Int)))) : Option Bool := ba (S := Unit) (R := Bool) 
  (ah (S1 := Unit) (b1 (fun xs => cD (fun x2 s1 => (b1 (fun kj => (ah (S1 := (List Int)) (b1 (fun xs => cD (fun x11 s10 => (b1 (fun kj => (some (Fl.nx kj)))
    (b2 dw (some s10) (some x11)))) xs kj) (b2 atI (some aj) (some x2))) fun s10 => (ah (S1 := Unit) (a9 (orM (dC (b2 ez (b2 dZ (some eQ) (some x2)) (b2 atI (some aj) (some x2)))) (dC (b2 ez (b2 eL (some eQ) (some x2)) (some s10))))
    (b1 (fun r => some (Fl.rt r)) (some false))
    (some (Fl.nx ()))) fun s12 => (some (Fl.nx ())))))
    (b1 aK (some ([] : List Int))))) xs ()) (b1 rngM (some (2 : Int)))) fun s1 => (ah (S1 := Unit) (a9 (dC (b2 cW (b1 bA (some eQ) ) (some aa)))
    (b1 (fun r => some (Fl.rt r)) (some false))
    (some (Fl.nx ()))) fun s13 => (b1 (fun r => some (Fl.rt r)) (b1 nH (b1 (lcM fun x14 => lcE (some true) (b2 ez (b2 cY (some eQ) (some x14)) (b2 tO (some aj) (some x14)))) (b1 rngM (b1 b7 (some aa))))))))
end Kj

namespace Kj
open PySem L2
def HQ (S : jo) : Sp := fun vs H Q E => ∃ As O Hr, S As O ∧ Same Hr H ∧ AllP As vs Hr ∧ match O with
  | .ret R => ∀ v H' Hr', Ext H Hr H' Hr' → R.p v Hr' → Q v H'
  | .exc X => ∀ cls d H', Same H H' → X cls d H' → E cls d H'
section
variable {P : Program} {w : World} {K : PySem.W.Frag} {mg : Str → Option Value} {base : Heap}
end
section
variable {W : WX} {H0 : Hp} {ρ ρ' : List Slot} {K : PySem.W.Frag} {f fa : Bool} {te t' ta tb tc td : TE} {X : XA} {α β γ δ ε : Type} {A : α → Abs} {B : β → Abs} {D : δ → Abs} {E' : ε → Abs} {R : γ → Abs} {C : Addr} {O : α → List (Str × Abs)} {m : Str}
end
section
variable {Gw : WK} {H0 : Hp} {ρ ρ' : List Slot} {K : PySem.W.Frag} {f fa fb fc fd : Bool} {ta tb tc td te : TE} {α β γ δ S S1 R : Type} {A : R → Abs} {B : S → List Slot} {t u w : TS} {Ax : α → Abs}
end
end Kj

namespace Kj
open PySem L2 PySem.HandSPX
abbrev HdL := List (Value × Option Nat × (Addr → Value → Option Addr → TS))
inductive HdsN (X : Cx) : List ExceptHandler → HdL → Prop
  | nil : HdsN X [] []
  | cons {x : Str} {c : Value} {ts : Addr → Value → Option Addr → TS} {b₀ : Stmt} {suite : List Stmt} {np pos' : Pos} {hds : List ExceptHandler} {l : HdL} (hc : Names X x c)
    (hsu : ∀ (a : Addr) (oe : Obj) (cls : Value) (d : Option Addr) (pn : List (Addr × Obj)), Zc cls d oe → (∃ vs, oe.data = .fields vs) → PSs (X.suite a ((a, oe) :: pn)) (b₀ :: suite) (ts a cls d)) (h : HdsN X hds l) :
    HdsN X (.ExceptHandler (some (.Name x np)) none (b₀ :: suite) pos' :: hds) ((c, none, ts) :: l)
  | as {x n : Str} {i : Nat} {c : Value} {ts : Addr → Value → Option Addr → TS} {b₀ : Stmt} {suite : List Stmt} {np pos' : Pos} {hds : List ExceptHandler} {l : HdL} (hN : X.N.Nodup) (hi : X.N[i]? = some n) (hln : X.env.kindOf n = some .local) (hc : Names X x c)
    (hsu : ∀ (a : Addr) (oe : Obj) (cls : Value) (d : Option Addr) (pn : List (Addr × Obj)), Zc cls d oe → (∃ vs, oe.data = .fields vs) → PSs (X.suite a ((a, oe) :: pn)) (b₀ :: suite) (ts a cls d)) (h : HdsN X hds l) :
    HdsN X (.ExceptHandler (some (.Name x np)) (some n) (b₀ :: suite) pos' :: hds) ((c, some i, ts) :: l)
def CM (i : Nat) (D : Ends) : Ends := { nx := fun σ H => D.nx (List.set σ i none) H, rt := D.rt, bk := fun σ H => D.bk (List.set σ i none) H, ct := fun σ H => D.ct (List.set σ i none) H }
def wMN (K : PySem.W.Frag) (Wout : WX) (D : Ends) : HdL → WX
  | [] => Wout
  | (c, none, ts) :: r => fun cls d σ H => ∃ b, PySem.W.exmOne K cls c = some b ∧ (b = true → ∀ a, H a = none → ts a cls d D σ H) ∧ (b = false → wMN K Wout D r cls d σ H)
  | (c, some i, ts) :: r => fun cls d σ H => ∃ b, PySem.W.exmOne K cls c = some b ∧ (b = true → ∀ a, H a = none → ts a cls d (CM i D) (List.set σ i (some (.ref a))) H) ∧ (b = false → wMN K Wout D r cls d σ H)
section
variable {X : Cx} {pins : List (Addr × Obj)} {σ : St} {H : Hp} {sI : Shared} {B : Heap} {a : Addr} {cls : Value} {d : Option Addr} {Wout : WX} {D : Ends}
theorem um {h : Heap} {l : List Env} {Z : Obj → Prop} (fl : FlyingZ B l a Z h) : a ∉ frs l := fun hm => by
  obtain ⟨oe, vs, he, _, hd⟩ := fl.there
  obtain ⟨_, o, e, n⟩ := fl.2.2.1.mem hm
  rw [he] at e
  cases e
  exact n vs hd
theorem wP (hs : X.stack = X.env :: X.outer) (hf : X.env.frame = some X.env.locals) (tk : Takes X Wout) (J : L2.Inv X pins σ H sI) (nb : ∀ (b : Addr) (o : Obj), sI.heap.get? b = some o → ¬b ∈ frs X.stack → B.get? b = some o) (na : H a = none)
    {hds : List ExceptHandler} {l : HdL} (hh : HdsN X hds l) : ∀ (s : Shared), sI.heap.UpToSlots s.heap → FlyingZ B (X.env :: X.outer) a (Zc cls d) s.heap → s.os = sI.os → PyProof.Rows.AllBare s.gens → wMN X.K Wout D l cls d σ H →
    wpAny (model X.prog X.w) X.A (handleBy (.ref a) X.env hds) (SP X pins D) X.xe s := by
  have ok := J.ok
  have inS : ∀ (s : Shared), sI.heap.UpToSlots s.heap → FlyingZ B (X.env :: X.outer) a (Zc cls d) s.heap → s.os = sI.os → PyProof.Rows.AllBare s.gens → ∃ oe vs, s.heap.get? a = some oe ∧ Zc cls d oe ∧ oe.data = .fields vs ∧ L2.Inv X pins σ H s ∧ L2.Inv (X.suite a ((a, oe) :: (X.pn ++ pins))) [] σ H s := fun s up fl os ag => by
    have J3 := J.landed nb fl.1 up os ag
    obtain ⟨oe, vs, he, hz, hd⟩ := fl.there
    have nf := um fl
    refine ⟨oe, vs, he, hz, hd, J3, J3.suite he hd na (fun z => nf (List.mem_filterMap.mpr ⟨X.env, List.mem_cons_self, by rw [hf, z]⟩)) fun hm => nf ?_⟩
    obtain ⟨e, h1, h2⟩ := List.mem_filterMap.mp hm
    exact List.mem_filterMap.mpr ⟨e, List.mem_cons_of_mem _ h1, h2⟩
  have test : ∀ (s : Shared) {x : Str} {c : Value} {np : Pos} {b : Bool} {Q : Bool → Shared → Prop} {E E' : Value → Shared → Prop}, Names X x c → PySem.W.exmOne X.K cls c = some b → sI.heap.UpToSlots s.heap → FlyingZ B (X.env :: X.outer) a (Zc cls d) s.heap → s.os = sI.os → PyProof.Rows.AllBare s.gens → Q b s →
      wpAny (model X.prog X.w) (X.A.mark (some (.ref a))) (eval (.Name x np) X.env) (fun c' s₁ => wpAny (model X.prog X.w) (X.A.mark (some (.ref a))) (excMatches (.ref a) c') Q E s₁) E' s := by
    intro s x c np b Q E E' hc hb1 up fl os ag q
    obtain ⟨oe, vs, he, hz, hd, J3, S3⟩ := inS s up fl os ag
    have LT : PySem.W.Looks (model X.prog X.w) s.heap (typeOf (.ref a)) cls := fun A Q E s2 k q => wpAny_typeOf_ref (k a oe he) (by rw [hz.1]; exact q)
    have LM := PySem.W.exm_one (M := model X.prog X.w) J3.kIn LT hb1
    have q2 := PySem.W.Looks.here (A := X.A.mark (some (.ref a))) (E := E) LM q
    obtain ⟨hg, hdb, hm | ⟨hm, hv, hn⟩⟩ := hc
    · exact ld_glob (X := X.suite a ((a, oe) :: (X.pn ++ pins))) S3 hg hm q2 hdb
    · exact ld_blt (X := X.suite a ((a, oe) :: (X.pn ++ pins))) S3 hg hm hv q2 hn hdb
  induction hh with
  | nil =>
    intro s up fl os ag w
    have w : Wout cls d σ H := w
    refine wpAny_handleBy_nil ?_
    obtain ⟨oe, vs, T, oT, ts, he, hz, hd, h1, h2, h3, h4, h5, h6⟩ := fl.2.2.2
    unfold passOn
    refine wpAny_bind (wpAny_field he hd h1 ?_)
    rw [if_neg (by simp)]
    refine wpAny_bind ?_
    rw [hf]
    refine setFlight_upZ fl fun h' hh' up' => wpAny_throw (tk _ _ ⟨a, B, sI, pins, σ, H, cls, d, rfl, J, nb, up.trans up', .inr (.inr ?_), na, os, ag, w⟩)
    rw [hs]; exact hh'
  | cons hc hsu h ih =>
    rename_i x c ts b₀ suite np pos' hds l
    intro s up fl os ag w
    obtain ⟨b, hb1, hyes, hno⟩ := w
    refine wpAny_handleBy_cons (codeAny_handlers_test (test s hc hb1 up fl os ag ?_)) (fun z => by cases z)
    cases b with
    | false => exact ih s up fl os ag (hno rfl)
    | true =>
      refine codeAny_handlers_suite (lands_againZ fl fun h' fl' up' => ?_)
      obtain ⟨oe, vs, he, hz, hd, J4, S4⟩ := inS ⟨h', s.gens, s.drawn, s.toks, s.os⟩ (up.trans up') fl' os ag
      refine wpAny_mono ((hsu a oe cls d _ hz ⟨vs, hd⟩).run [] _ σ H D S4 (hyes rfl a na)) (fun f s6 sp => ?_) (fun _ _ z => z.elim)
      cases f with
      | next => obtain ⟨σ6, H6, S6, q6⟩ := sp; exact ⟨σ6, H6, S6.unsuite ok, q6⟩
      | brk => obtain ⟨σ6, H6, S6, q6⟩ := sp; exact ⟨σ6, H6, S6.unsuite ok, q6⟩
      | cont => obtain ⟨σ6, H6, S6, q6⟩ := sp; exact ⟨σ6, H6, S6.unsuite ok, q6⟩
      | ret u => obtain ⟨v, σ6, H6, S6, r6, q6⟩ := sp; exact ⟨v, σ6, H6, S6.unsuite ok, r6, q6⟩
  | as hN hi hln hc hsu h ih =>
    rename_i x n i c ts b₀ suite np pos' hds l
    intro s up fl os ag w
    obtain ⟨b, hb1, hyes, hno⟩ := w
    refine wpAny_handleBy_cons (codeAny_handlers_test (test s hc hb1 up fl os ag ?_)) (fun z => by cases z)
    cases b with
    | false => exact ih s up fl os ag (hno rfl)
    | true =>
      refine codeAny_handlers_suite_as (lands_againZ fl fun h' fl' up' => ?_)
      obtain ⟨oe, vs, he, hz, hd, J4, S4⟩ := inS ⟨h', s.gens, s.drawn, s.toks, s.os⟩ (up.trans up') fl' os ag
      refine store_ok (X := X.suite a ((a, oe) :: (X.pn ++ pins))) (v := .ref a) S4 hN hi (.inl hln) rfl (fun s5 S5 => ?_) (.inr hln)
      refine wpAny_mono ((hsu a oe cls d _ hz ⟨vs, hd⟩).run [] _ _ H (CM i D) S5 (hyes rfl a na)) (fun f s6 sp => ?_) (fun _ _ z => z.elim)
      have fin : ∀ {σ6 : St} {H6 : Hp} {Q : Unit → Shared → Prop}, L2.Inv (X.suite a ((a, oe) :: (X.pn ++ pins))) [] σ6 H6 s6 → (∀ s', L2.Inv X pins (List.set σ6 i none) H6 s' → Q () s') → wpAny (model X.prog X.w) X.A (do bindName X.env n Value.none; unbindBehindTheSuite X.env n pos') Q X.xe s6 := fun S6 q => gone_ok (S6.unsuite ok) hN hi hln q
      cases f with
      | next => obtain ⟨σ6, H6, S6, q6⟩ := sp; exact fin S6 fun s' S' => ⟨_, H6, S', q6⟩
      | brk => obtain ⟨σ6, H6, S6, q6⟩ := sp; exact fin S6 fun s' S' => ⟨_, H6, S', q6⟩
      | cont => obtain ⟨σ6, H6, S6, q6⟩ := sp; exact fin S6 fun s' S' => ⟨_, H6, S', q6⟩
      | ret u => obtain ⟨v, σ6, H6, S6, r6, q6⟩ := sp; exact fin S6 fun s' S' => ⟨v, _, H6, S', r6, q6⟩
end
theorem z6 {X : Cx} {body : List Stmt} {h₀ : ExceptHandler} {hds : List ExceptHandler} {l : HdL} {pos : Pos} {tb : WX → TS} {Wout : WX} (hs : X.stack = X.env :: X.outer) (hf : X.env.frame = some X.env.locals) (tk : Takes X Wout)
    (hb : ∀ (W : WX) (pn : List (Addr × Obj)) (xe : Value → Shared → Prop), Takes (X.tr pn xe) W → PassesOwn (model X.prog X.w) X.A X.env xe → PSs (X.tr pn xe) body (tb W)) (hh : HdsN X (h₀ :: hds) l) :
    PS X (.Try body (h₀ :: hds) [] [] pos) (fun D σ H => tb (wMN X.K Wout D l) D σ H) := ⟨fun pins s σ H D I h => by
  have ok := I.ok
  have hfr : X.A.frames = some (X.env :: X.outer) := by rw [ok.frames, hs]
  refine wpAny_Try_except (wpAny_mono ((hb (wMN X.K Wout D l) (X.pn ++ pins) _ (fun u s' xx => ?_) PassesOwn.looking).run [] s σ H D (I.toTry _) h) (fun f s' sp => ?_) fun e s' q => q)
  · obtain ⟨a, B, sI, pins', σ', H', cls, d, rfl, J', nb, up, sky, na, os, ag, w⟩ := xx
    have J := J'.ofTry ok
    have sky : Sky B (X.env :: X.outer) a (Zc cls d) X.env.locals s'.heap := by rw [← hs]; exact sky
    exact sky.land Zc.steady hfr hf fun h3 fl up3 => wP hs hf tk J nb na hh _ (up.trans up3) fl os ag w
  · cases f with
    | next => obtain ⟨σ6, H6, S6, q6⟩ := sp; exact wpAny_execs_nil ⟨σ6, H6, S6.ofTry ok, q6⟩
    | brk => obtain ⟨σ6, H6, S6, q6⟩ := sp; exact ⟨σ6, H6, S6.ofTry ok, q6⟩
    | cont => obtain ⟨σ6, H6, S6, q6⟩ := sp; exact ⟨σ6, H6, S6.ofTry ok, q6⟩
    | ret u => obtain ⟨v, σ6, H6, S6, r6, q6⟩ := sp; exact ⟨v, σ6, H6, S6.ofTry ok, r6, q6⟩⟩
end Kj

namespace Kj
open PySem L2
structure ExF (K : PySem.W.Frag) (C : Addr) (fs : List Str) : Prop where
  o : OexC K C
  x : XfC K C
  i : PySem.W.findIn K (.ref C) "__init__" = some (some (.ref (He.ma K C "__init__")))
  t : PySem.W.typeIn K (.ref (He.ma K C "__init__")) = some (.type "function")
  n : ∀ f ∈ fs, PySem.W.findIn K (.ref C) f = some none
theorem vz {K : PySem.W.Frag} {C : Addr} {fs : List Str} (h : Ae K C fs = true) : ExF K C fs := by
  unfold Ae at h
  simp only [Bool.and_eq_true] at h
  obtain ⟨h1, h2, h3, h4, h5, h6, h7, h8⟩ := h
  have x := xfB_ok h5
  refine ⟨⟨?_, of_decide_eq_true h2, x.exC, of_decide_eq_true h3, h4⟩, x, of_decide_eq_true h6, of_decide_eq_true h7, fun f hf => of_decide_eq_true (List.all_eq_true.mp h8 f hf)⟩
  split at h1
  · rename_i dict cd sl e
    split at h1
    · rename_i C' bm k0 k1 k2 k3 n k5 e1 e2
      simp only [Bool.and_eq_true, beq_iff_eq, Bool.not_eq_true'] at h1
      obtain ⟨⟨⟨⟨rfl, rfl⟩, hd⟩, hdel⟩, hr⟩ := h1
      refine ⟨cd.name, cd.qualname, cd.ns, cd.bases, bm, cd.slotNames, cd.subclasses, cd.abstract, cd.collection, dict, k0, k1, k2, k3, k5, ?_, hr⟩
      rw [e]
      obtain ⟨nm, bs, mro, ns, qn, hdct, sn, sub, ab, col, del⟩ := cd
      cases e1
      cases hd
      cases hdel
      obtain ⟨l⟩ := sl
      cases e2
      rfl
    · cases h1
  · cases h1
def w9 (P : Program) (w : World) (K : PySem.W.Frag) (mg : Str → Option Value) (base : Heap) (x : Str) (C : Addr) (k : Nat) (ps : List Str) (sp : Sp) : Prop :=
  ∃ f fd, mg x = some (.ref C) ∧ OexC K C ∧ PySem.W.findIn K (.ref C) "__init__" = some (some (.ref f)) ∧ PySem.W.typeIn K (.ref f) = some (.type "function") ∧ Binds K fd ps [] ∧ FnOk P w K mg base CX0 k f fd ps sp
theorem EL {P : Program} {w : World} {K : PySem.W.Frag} {mg : Str → Option Value} {base : Heap} {x qual name : Str} {C : Addr} {st : Stmt} {fd : FuncData} {k : Nat} {ps : List Str} {sp : Sp} {fs : List Str} (F : FnP K x qual st (He.ma K C "__init__") fd) (hg : mg name = some (.ref C)) (X : ExF K C fs) (G : FnOk P w K mg base CX0 k (He.ma K C "__init__") fd ps sp)
    (h : ∀ (kV doc pm : Value) (an : Option Addr) (cdv ct : Value) (us : List Value), us.length = ps.length → bindArgs (PySem.W.fnOf x qual (defArgs st) (defBody st) (defScope st) .none kV doc pm an cdv ct) ⟨us, []⟩ = pure (ps.zip us)) : w9 P w K mg base name C k ps sp :=
  ⟨_, fd, hg, X.o, X.i, X.t, F.bindsN h, G⟩
def rh (C : Addr) (sp : Sp) (ta : TA) (W : WX) : TS := fun _ σ H => tMkO C sp [] ta σ H fun cls d H' => W cls d σ H'
theorem qM {X : Cx} {W : WX} {C : Addr} {k : Nat} {ps : List Str} {sp : Sp} {x : Str} {p pos pos2 : Pos} {e : Expr} {es : List Expr} {t : TA} (D : w9 X.prog X.w X.K X.mg X.base x C k ps sp) (hr : Room (k + 1) X.A) (hc : X.calm = true) (tk : Takes X W) (hg : Gl X x)
    (ha : PA X (e :: es) t) (hdb : (x == ("__debug__" : Str)) = false := by decide) (he : starEach (e :: es) X.env = (false, eval e X.env) :: starEach es X.env := by rfl) (hpl : (backTo pos (starEach es X.env)).any (·.1) = false := by rfl) :
    PS X (.Raise (some (.Call (.Name x p) (e :: es) [] pos)) none pos2) (rh C sp t W) := by
  obtain ⟨f, fd, h1, h2, h3, h4, h5, h6⟩ := D
  exact ps_raise (t := fun σ H Q => tMkO C sp [] t σ H Q) hc tk (pmk_oex h2 h3 h4 h6 hr h5 .nil pass0 hg h1 ha hdb he hpl)
def xE (C : Addr) (f : Str) : Sp := fun vs H Q _ => ∃ a y, vs = [.ref a, y] ∧ H a = some (exo a C none) ∧ ∀ dx, H dx = none → dx ≠ a → Q .non (upd (upd H dx (exd dx [(f, y)])) a (exo a C (some dx)))
def xD (C : Addr) (f g : Str) : Sp := fun vs H Q _ => ∃ a y z, vs = [.ref a, y, z] ∧ H a = some (exo a C none) ∧ ∀ dx, H dx = none → dx ≠ a → Q .non (upd (upd (upd H dx (exd dx [(f, y)])) a (exo a C (some dx))) dx (exd dx [(g, z), (f, y)]))
section
variable {P : Program} {w : World} {K : PySem.W.Frag} {mg : Str → Option Value} {base : Heap}
theorem AH {x qual : Str} {st : Stmt} {f C : Addr} {fd : FuncData} {N : List Str} {p0 p1 fl : Str} {k : Nat} {fs : List Str} (F : FnP K x qual st f fd) (Sc : FnScope N [p0, p1] (defScope st)) (X : ExF K C fs) (hf : fl ∈ fs)
    (body : ∀ (cdv : Value) (A : Around) (outer : List Env) (s : Shared) (H : Hp) (E : XK), PSs (cxOf CX0 P w K mg base N qual (defScope st) f cdv A outer s H E).nox (defBody st) (tSeq (tOst K fl (tVar 0) (tVar 1)) tNext)) : FnOk P w K mg base CX0 (k + 1) f fd [p0, p1] (xE C fl) := by
  refine F.ok Sc (fun vs H Q E h => ?_) (fun cdv A outer s H vs Q E hr h => ?_)
  · obtain ⟨a, y, rfl, _⟩ := h; rfl
  · obtain ⟨a, y, rfl, h1, h2⟩ := h
    exact ⟨_, (body cdv A outer s H E).nox, y, rfl, .ref a, rfl, a, C, rfl, X.o, X.n fl hf, .inl ⟨h1, h2⟩⟩
theorem AG {x qual : Str} {st : Stmt} {f C : Addr} {fd : FuncData} {N : List Str} {p0 p1 p2 fl gl : Str} {k : Nat} {fs : List Str} (F : FnP K x qual st f fd) (Sc : FnScope N [p0, p1, p2] (defScope st)) (X : ExF K C fs) (hf : fl ∈ fs) (hg : gl ∈ fs)
    (body : ∀ (cdv : Value) (A : Around) (outer : List Env) (s : Shared) (H : Hp) (E : XK), PSs (cxOf CX0 P w K mg base N qual (defScope st) f cdv A outer s H E).nox (defBody st) (tSeq (tOst K fl (tVar 0) (tVar 1)) (tSeq (tOst K gl (tVar 0) (tVar 2)) tNext))) : FnOk P w K mg base CX0 (k + 1) f fd [p0, p1, p2] (xD C fl gl) := by
  refine F.ok Sc (fun vs H Q E h => ?_) (fun cdv A outer s H vs Q E hr h => ?_)
  · obtain ⟨a, y, z, rfl, _⟩ := h; rfl
  · obtain ⟨a, y, z, rfl, h1, h2⟩ := h
    exact ⟨_, (body cdv A outer s H E).nox, y, rfl, .ref a, rfl, a, C, rfl, X.o, X.n fl hf, .inl ⟨h1, fun dx q1 q2 => ⟨z, rfl, .ref a, rfl, a, C, rfl, X.o, X.n gl hg, .inr ⟨dx, _, upd_same, by rw [upd_ne q2, upd_same], by show 1 ≤ 900; omega, h2 dx q1 q2⟩⟩⟩⟩
end
section
variable {G : WK} {H0 : Hp} {ρ ρ' : List Slot} {f fa fb : Bool} {α S S1 R : Type} {A : R → Abs} {B : S → List Slot} {t u w : TS} {ta tb te : TE} {Ax : α → Abs} {B1 : S1 → List Slot}
theorem qW {H1 Hr1 : Hp} {a dx : Addr} {o : HO} {H2 : Hp} (s : Same Hr1 H1) (na : H1 a = none) (nd : H1 dx = none) (h : ∀ c, c ≠ a → c ≠ dx → H2 c = H1 c) : Ext H1 Hr1 (upd (del H2 a) dx o) Hr1 := by
  have k : Same H1 (upd (del H2 a) dx o) := fun c u q => by
    have c1 : c ≠ a := fun z => by rw [z, na] at q; cases q
    have c2 : c ≠ dx := fun z => by rw [z, nd] at q; cases q
    rw [upd_ne c2]
    unfold del
    rw [if_neg c1, h c c1 c2]
    exact q
  exact ⟨k, Same.refl _, s.trans k, fun c u q q' => by rw [q] at q'; cases q'⟩
theorem u1 {x fl : Str} {m : Option Int} (h : DM H0 ρ ta fa (aE G.K) m) : DB G H0 ρ (tSeq (rh (He.ga G.K x) (xE (He.ga G.K x) fl) (tCons ta tNil) G.W) u) A (b1 (fun i => some (.ex ⟨x, [(fl, i)]⟩)) m : Option (Fl S R)) B := fun fl' e => by
  obtain ⟨i, h1, h2⟩ := cC e
  cases h2
  intro σ H Hr D E kn kr kx
  refine h i h1 σ H Hr _ E fun v H1 Hr1 x1 a1 => ⟨by show 1 ≤ 1000; omega, fun a na => ⟨a, v, rfl, upd_same, fun dx nd ne => ⟨rfl, dx, [(fl, v)], upd_same, ?_, ?_, ?_⟩⟩⟩
  · rw [upd_ne ne, upd_same]
  · rw [upd_ne ne] at nd; exact nd
  · rw [upd_ne ne] at nd
    cases a1
    refine kx ρ σ _ Hr1 _ _ ⟨rfl, dx, rfl, upd_same⟩ ((E.ext x1).ext (qW (E.ext x1).sub na nd fun c c1 c2 => ?_)) x1.r
    rw [upd_ne c1, upd_ne c2, upd_ne c1]
theorem u0 {x fl gl : Str} {m n : Option Int} (h : DM H0 ρ ta fa (aE G.K) m) (h' : DM H0 ρ tb fb (aE G.K) n) : DB G H0 ρ (tSeq (rh (He.ga G.K x) (xD (He.ga G.K x) fl gl) (tCons ta (tCons tb tNil)) G.W) u) A (b2 (fun i j => some (.ex ⟨x, [(gl, j), (fl, i)]⟩)) m n : Option (Fl S R)) B := fun fl' e => by
  obtain ⟨i, j, h1, h2, h3⟩ := cq e
  cases h3
  intro σ H Hr D E kn kr kx
  refine h i h1 σ H Hr _ E fun v H1 Hr1 x1 a1 => h' j h2 σ H1 Hr1 _ (E.ext x1) fun y H2 Hr2 x2 a2 => ⟨by show 2 ≤ 1000; omega, fun a na => ⟨a, v, y, rfl, upd_same, fun dx nd ne => ⟨rfl, dx, [(gl, y), (fl, v)], ?_, upd_same, ?_, ?_⟩⟩⟩
  · rw [upd_ne (Ne.symm ne), upd_same]
  · rw [upd_ne ne] at nd; exact nd
  · rw [upd_ne ne] at nd
    cases a1
    cases a2
    have E2 := (E.ext x1).ext x2
    refine kx ρ σ _ Hr2 _ _ ⟨rfl, dx, rfl, upd_same⟩ (E2.ext (qW E2.sub na nd fun c c1 c2 => ?_)) (x1.r.trans x2.r)
    rw [upd_ne c2, upd_ne c1, upd_ne c2, upd_ne c1]
def uo (ρ : List Slot) : Bool := ρ.all fun s => match s with | .reg _ => false | .own _ => false | _ => true
theorem tu (h : uo ρ = true) (i : Nat) (A : Abs) : ρ[i]? ≠ some (.reg A) := fun e => by
  have := List.all_eq_true.mp h _ (List.mem_of_getElem? e)
  cases this
theorem mm (h : uo ρ = true) (i : Nat) (A : AbsO) : ρ[i]? ≠ some (.own A) := fun e => by
  have := List.all_eq_true.mp h _ (List.mem_of_getElem? e)
  cases this
def aXc (a p : Addr) (fs : List (Str × Int)) : Abs := ⟨fun v H => v = .ref a ∧ H p = some (.xd (fs.map fun q => (q.1, .int q.2))), fun _ _ _ s z => ⟨z.1, s _ _ z.2⟩⟩
theorem yM {σ : St} {H Hr : Hp} {i : Nat} {a p : Addr} {fs : List (Str × Int)} (E : EnvOk H0 σ ρ H Hr) (no : uo ρ = true) (hi : i < ρ.length) (hp : H p = some (.xd (fs.map fun q => (q.1, .int q.2)))) : ∃ Hr', Same Hr Hr' ∧ EnvOk H0 (List.set σ i (some (.ref a))) (ρ.set i (.dat (aXc a p fs))) H Hr' := by
  let Hr' : Hp := fun c => if c = p then some (.xd (fs.map fun q => (q.1, .int q.2))) else Hr c
  have up : Same Hr Hr' := fun c o q => by
    show (if c = p then _ else _) = _
    by_cases z : c = p
    · rw [if_pos z]; subst z; rw [← hp]; exact E.sub _ _ q
    · rw [if_neg z]; exact q
  have E1 : EnvOk H0 σ ρ H Hr' := by
    refine ⟨E.base, fun c o q => ?_, E.len, fun j s hs => ?_, fun j k q B B' _ hj _ _ _ => absurd hj (mm no j B), .nil (tu no)⟩
    · have q : (if c = p then some (.xd (fs.map fun q => (q.1, .int q.2))) else Hr c) = some o := q
      by_cases z : c = p
      · rw [if_pos z] at q; rw [z, hp]; exact q
      · rw [if_neg z] at q; exact E.sub _ _ q
    · have := E.slot j s hs
      cases s with
      | no => trivial
      | dat A => obtain ⟨v, g1, g2⟩ := this; exact ⟨v, g1, A.mono _ _ _ up g2⟩
      | new A => obtain ⟨v, g1, g2⟩ := this; exact ⟨v, g1, A.mono _ _ _ (dI H0 up) g2⟩
      | own B => exact absurd hs (mm no j B)
      | reg A => trivial
  exact ⟨Hr', up, E1.set (f := false) (A := aXc a p fs) hi ⟨rfl, if_pos rfl⟩⟩
theorem yN {σ : St} {H Hr : Hp} {i : Nat} (E : EnvOk H0 σ ρ H Hr) (no : uo ρ = true) (hi : ρ[i]? = some .no) : EnvOk H0 (List.set σ i none) ρ H Hr := by
  refine ⟨E.base, E.sub, by rw [List.length_set]; exact E.len, fun j s hs => ?_, fun j k q B B' _ hj _ _ _ => absurd hj (mm no j B), .nil (tu no)⟩
  by_cases z : j = i
  · subst z
    rw [hi] at hs
    cases hs
    trivial
  · have := E.slot j s hs
    have e : (List.set σ i none)[j]? = σ[j]? := List.getElem?_set_ne (Ne.symm z)
    cases s with
    | no => trivial
    | dat A => obtain ⟨v, g1, g2⟩ := this; exact ⟨v, e.trans g1, g2⟩
    | new A => obtain ⟨v, g1, g2⟩ := this; exact ⟨v, e.trans g1, g2⟩
    | own B => exact absurd hs (mm no j B)
    | reg A => trivial
theorem FM {i : Nat} {a p C : Addr} {cls : Value} {d : Option Addr} {fs : List (Str × Int)} {fl : Str} {n : Int} {K : PySem.W.Frag} (hi : ρ[i]? = some (.dat (aXc a p fs))) (hc : cls = .ref C) (hd : d = some p) (hf : fs.lookup fl = some n) : DM H0 ρ (tXf a cls d C fl (tVar i)) true (aE K) (some n) := fun x e σ H Hr Q E k => by
  cases e
  obtain ⟨v, e1, rfl, e2⟩ := E.slot i _ hi
  have lk : ∀ {l : List (Str × Int)}, l.lookup fl = some n → (l.map fun q => (q.1, V.int q.2)).lookup fl = some (.int n) := by
    intro l
    induction l with
    | nil => intro h; cases h
    | cons q l ih =>
      intro h
      rw [List.map_cons]
      rw [List.lookup_cons] at h ⊢
      cases z : (fl == q.1) with
      | true => rw [z] at h; simp only [z] at h ⊢; cases h; rfl
      | false => rw [z] at h; simp only [z] at h ⊢; exact ih h
  exact ⟨_, e1, rfl, hc, p, _, .int n, hd, E.sub _ _ e2, lk hf, k _ H Hr (Ext.refl E.sub) (.int _)⟩
def AC {S R : Type} : List (Str × (Exn → Option (Fl S R))) → Exn → Option (Fl S R)
  | [], _ => none
  | (c, p) :: hs, e => if iG e.name c = true then p e else AC hs e
def EN {α S R : Type} (l : List Str) (hs : List (Str × (Exn → Option (Fl S R)))) (ok : α → Option (Fl S R)) (m : Option (Rs α)) : Option (Fl S R) := m.bind fun r => match r with | .ok x => ok x | .ex e => if l.contains e.name = true then AC hs e else none
inductive HLN (G : WK) (H0 : Hp) (ρ : List Slot) (lc : List Str) {S1 R : Type} (A : R → Abs) (B1 : S1 → List Slot) : HdL → List (Str × (Exn → Option (Fl S1 R))) → Prop
  | nil : HLN G H0 ρ lc A B1 [] []
  | cons {c : Str} {tb : TS} {p : Option (Fl S1 R)} {l : HdL} {hs : List (Str × (Exn → Option (Fl S1 R)))} : lc.contains c = true → DB G H0 ρ tb A p B1 → HLN G H0 ρ lc A B1 l hs → HLN G H0 ρ lc A B1 ((.ref (He.ga G.K c), none, fun _ _ _ => tb) :: l) ((c, fun _ => p) :: hs)
  | as {c : Str} {i : Nat} {ts : Addr → Value → Option Addr → TS} {p : Exn → Option (Fl S1 R)} {l : HdL} {hs : List (Str × (Exn → Option (Fl S1 R)))} : lc.contains c = true → c ≠ "SnatchError" → i < ρ.length → (∀ s, (B1 s)[i]? = some .no ∧ uo (B1 s) = true) →
    (∀ (e : Exn) (a pd : Addr) (cls : Value) (d : Option Addr), cls = .ref (He.ga G.K c) → d = some pd → DB G H0 (ρ.set i (.dat (aXc a pd e.flds))) (ts a cls d) A (p e) B1) → (∀ e fl, p e = some fl → e.flds ≠ []) → HLN G H0 ρ lc A B1 l hs → HLN G H0 ρ lc A B1 ((.ref (He.ga G.K c), some i, ts) :: l) ((c, p) :: hs)
  | dead {c : Str} {i : Option Nat} {ts : Addr → Value → Option Addr → TS} {l : HdL} {hs : List (Str × (Exn → Option (Fl S1 R)))} : lc.contains c = true → HLN G H0 ρ lc A B1 l hs → HLN G H0 ρ lc A B1 ((.ref (He.ga G.K c), i, ts) :: l) ((c, fun _ => none) :: hs)
def xw (K : PySem.W.Frag) (Wout : WX) (l : HdL) (tb : WX → TS) : TS := fun D σ H => tb (wMN K Wout D l) D σ H
theorem mo {lx lc : List Str} (hx : yL G.K lx lc = true) (no : uo ρ = true) {e : Exn} (he : lx.contains e.name = true) {fl : Fl S1 R} {d : Option Addr} {σ : St} {H Hr : Hp} {D : Ends} (E : EnvOk H0 σ ρ H Hr) (z : xP G.K e (.ref (He.ga G.K e.name)) d H)
    (kn : ∀ ρ' σ' H' Hr', (∃ s, fl = .nx s ∧ ρ' = B1 s) → EnvOk H0 σ' ρ' H' Hr' → Same Hr Hr' → D.nx σ' H') (kr : KR H0 (flR A fl) D.rt Hr) (kx : KX H0 (wz G fl) Hr) :
    ∀ {l : HdL} {hs : List (Str × (Exn → Option (Fl S1 R)))}, HLN G H0 ρ lc A B1 l hs → AC hs e = some fl → wMN G.K G.W D l (.ref (He.ga G.K e.name)) d σ H
  | _, _, .nil, h => by cases h
  | _, _, .cons (c := c) hc hp hl, h => by
    have q := sa hx he hc
    cases y : iG e.name c with
    | true =>
      rw [y] at q
      have h' : (if iG e.name c = true then _ else _) = some fl := h
      rw [y, if_pos rfl] at h'
      exact ⟨true, q, fun _ a _ => hp fl h' σ H Hr D E kn kr kx, fun z => by cases z⟩
    | false =>
      rw [y] at q
      have h' : (if iG e.name c = true then _ else _) = some fl := h
      rw [y, if_neg Bool.false_ne_true] at h'
      exact ⟨false, q, (fun z => by cases z), fun _ => mo hx no he E z kn kr kx hl h'⟩
  | _, _, .as (c := c) (i := i) (p := p) hc nc hi hB hp hne hl, h => by
    have q := sa hx he hc
    cases y : iG e.name c with
    | true =>
      rw [y] at q
      have h' : (if iG e.name c = true then _ else _) = some fl := h
      rw [y, if_pos rfl] at h'
      have ec : e.name = c := by
        unfold iG at y
        rw [decide_eq_false nc, Bool.or_false] at y
        exact of_decide_eq_true y
      refine ⟨true, q, fun _ a na => ?_, fun z => by cases z⟩
      obtain ⟨en, fs⟩ := e
      have ec : en = c := ec
      subst ec
      have nf : fs ≠ [] := hne _ _ h'
      obtain ⟨pd, rfl, hpd⟩ : ∃ pd, d = some pd ∧ H pd = some (.xd (fs.map fun q => (q.1, .int q.2))) := by
        have z2 := z.2
        cases fs with
        | nil => exact absurd rfl nf
        | cons q l => exact z2
      obtain ⟨Hr', up, E'⟩ := yM (a := a) E no hi hpd
      exact hp ⟨en, fs⟩ a pd _ _ rfl rfl fl h' _ H Hr' (CM i D) E' (fun ρ' σ' H' Hr2 n E2 s2 => by
        obtain ⟨s, e1, e2⟩ := n
        subst e2
        exact kn _ _ _ Hr2 ⟨s, e1, rfl⟩ (yN E2 (hB s).2 (hB s).1) (up.trans s2)) (kr.up up) (kx.up up)
    | false =>
      rw [y] at q
      have h' : (if iG e.name c = true then _ else _) = some fl := h
      rw [y, if_neg Bool.false_ne_true] at h'
      exact ⟨false, q, (fun z => by cases z), fun _ => mo hx no he E z kn kr kx hl h'⟩
  | _, _, .dead (c := c) (i := i) hc hl, h => by
    have q := sa hx he hc
    cases y : iG e.name c with
    | true =>
      have h' : (if iG e.name c = true then none else _) = some fl := h
      rw [y, if_pos rfl] at h'
      cases h'
    | false =>
      rw [y] at q
      have h' : (if iG e.name c = true then _ else _) = some fl := h
      rw [y, if_neg Bool.false_ne_true] at h'
      cases i with
      | none => exact ⟨false, q, (fun z => by cases z), fun _ => mo hx no he E z kn kr kx hl h'⟩
      | some i => exact ⟨false, q, (fun z => by cases z), fun _ => mo hx no he E z kn kr kx hl h'⟩
theorem By {te : WX → TE} {lx lc : List Str} {m : Option (Rs α)} {s0 : S1} {k : S1 → Option (Fl S R)} {l : HdL} {hs : List (Str × (Exn → Option (Fl S1 R)))} (hx : yL G.K lx lc = true) (no : uo ρ = true)
    (h : ∀ W, DMx W G.K H0 ρ (te W) f Ax m) (w0 : Wks ρ (B1 s0)) (hl : HLN G H0 ρ lc A B1 l hs) (hk : ∀ s, DB G H0 (B1 s) u A (k s) B) : DB G H0 ρ (tSeq (xw G.K G.W l fun W => tSeq (tDrop (te W)) tNext) u) A (ah (EN lx hs (fun _ => some (.nx s0)) m) k) B := by
  refine pV (B1 := B1) (fun fl e => ?_) hk
  obtain ⟨r, h1, h2⟩ := Option.bind_eq_some_iff.mp e
  cases r with
  | ok x =>
    have h2 : some (Fl.nx s0) = some fl := h2
    cases h2
    intro σ H Hr D E kn kr kx
    exact (h _).1 x h1 σ H Hr _ E fun v H1 Hr1 x1 a1 => kn _ _ _ Hr1 ⟨s0, rfl, rfl⟩ ((E.ext x1).wk w0) x1.r
  | ex x =>
    have h2 : (if lx.contains x.name = true then AC hs x else none) = some fl := h2
    by_cases hc : lx.contains x.name = true
    · rw [if_pos hc] at h2
      intro σ H Hr D E kn kr kx
      refine (h _).2 x h1 σ H Hr _ E fun cls d H' Hr' x1 q => ?_
      have q1 := q.1
      subst q1
      exact mo hx no hc (E.ext x1) q (fun ρ' σ' H2 Hr2 n E2 s2 => kn ρ' σ' H2 Hr2 n E2 (x1.r.trans s2)) (kr.up x1.r) (kx.up x1.r) hl h2
    · rw [if_neg hc] at h2
      cases h2
end
end Kj

namespace Kj
open PySem L2
inductive OutI where
  | ret (fas : List (Str × Abs))
  | exc (X : XA)
def G0 (S : List Abs → OutI → Prop) (C : Addr) : Sp := fun vs H Q E => ∃ x dx As O rest Hr, vs = .ref x :: rest ∧ H x = some (.ins C dx []) ∧ S As O ∧ Same Hr (rm H x) ∧ AllP As rest Hr ∧ match O with
  | .ret fas => ∀ H' Hr' fs, Ext (rm H x) Hr (rm H' x) Hr' → H' x = some (.ins C dx fs) → FAll fas fs Hr' → Q .non H'
  | .exc X => ∀ cls d H', Same (rm H x) H' → X cls d H' → E cls d H'
def BY : OutI → List Slot → XA | .ret _ => fun _ _ _ _ => False | .exc X => fun _ => X
def BZ (xo C dx : Addr) : OutI → List Slot → Prop | .ret fas => fun r => ∃ rest, r = .own (qo xo C dx fas) :: rest | .exc _ => fun _ => False
def m7 (C : Addr) (sp : Sp) (E : St → XK) (t : TA) : TE := fun σ H Q => t σ H fun vs H1 => ∀ x dx, H1 x = none → H1 dx = none → dx ≠ x → sp (.ref x :: vs) (upd (upd H1 dx (.own x)) x (.ins C dx [])) (fun v H2 => v = .non ∧ Q (.ref x) H2) (E σ)
theorem wu {X : Cx} {k : Nat} {f C : Addr} {fd : FuncData} {ps : List Str} {sp : Sp} {E : XK} {pins : List (Addr × Obj)} {σ : St} {H : Hp} {s : Shared} {Q : VK} {us : List Value} {vs : List V} (M : Mk X.K C f) (F : FnOk X.prog X.w X.K X.mg X.base (L2.CX X.prog X.w) k f fd ps sp) (hr : Room (k + 1) X.A) (hb : Binds X.K fd ps [])
    (hx : PassesAt (L2.CX X.prog X.w) X σ E) (I : L2.Inv X pins σ H s) (hv : Vals vs us) (hs : ∀ x dx, H x = none → H dx = none → dx ≠ x → sp (.ref x :: vs) (upd (upd H dx (.own x)) x (.ins C dx [])) (fun v H2 => v = .non ∧ Q (.ref x) H2) E) : wpAny (model X.prog X.w) X.A (call (.ref C) us) (EP X pins σ Q) X.xe s := by
  have I1 := I.made (C := C)
  have S := hs (s.heap.objs.size + 1) s.heap.objs.size (I.hok.fresh (Nat.le_succ _)) (I.hok.fresh (Nat.le_refl _)) (Nat.ne_of_lt (Nat.lt_succ_self _))
  have hv1 : Vals (.ref (s.heap.objs.size + 1) :: vs) (.ref (s.heap.objs.size + 1) :: us) := .cons rfl hv
  have hl := F.len _ _ _ _ S
  have tI : PySem.W.typeIn X.K (.ref f) = some (.type "function") := beq_iff_eq.mp M.fn
  have b := hb _ (.ref (s.heap.objs.size + 1) :: us) I1.kIn (by rw [List.append_nil, ← hl]; exact hv1.length.symm)
  rw [List.append_nil] at b
  refine wpAny_call (make_map I.kIn M.makes M.init tI (codeAny_mono (F.run _ _ _ _ _ _ _ _ _ (hr.make C us []) (I1.env0.make C us []) b hv1 S) fun r s2 q => ?_))
  cases r with
  | error e => exact hx pins _ _ e s2 I1 q
  | ok fl =>
    cases fl with
    | next => exact q.elim
    | brk => exact q.elim
    | cont => exact q.elim
    | ret u =>
      obtain ⟨v, H', J, rv, rfl, q'⟩ := I1.after q
      exact ⟨rv, .ref (s.heap.objs.size + 1), H', J, rfl, q'⟩
def ua (P : Program) (w : World) (K : PySem.W.Frag) (mg : Str → Option Value) (base : Heap) (x : Str) (C : Addr) (k : Nat) (ps : List Str) (sp : Sp) : Prop :=
  ∃ f fd, Mk K C f ∧ mg x = some (.ref C) ∧ Binds K fd ps [] ∧ FnOk P w K mg base (L2.CX P w) k f fd ps sp
theorem Fk {P : Program} {w : World} {K : PySem.W.Frag} {mg : Str → Option Value} {base : Heap} {x qual name : Str} {C : Addr} {st : Stmt} {f : Addr} {fd : FuncData} {k : Nat} {ps : List Str} {sp : Sp} (F : FnP K x qual st f fd) (M : Mk K C f) (hg : mg name = some (.ref C)) (G : FnOk P w K mg base (L2.CX P w) k f fd ps sp)
    (h : ∀ (kV doc pm : Value) (an : Option Addr) (cdv ct : Value) (us : List Value), us.length = ps.length → bindArgs (PySem.W.fnOf x qual (defArgs st) (defBody st) (defScope st) .none kV doc pm an cdv ct) ⟨us, []⟩ = pure (ps.zip us)) : ua P w K mg base name C k ps sp :=
  ⟨f, fd, M, hg, F.bindsN h, G⟩
theorem CK {X : Cx} {W : WX} {C : Addr} {k : Nat} {ps : List Str} {sp : Sp} {x : Str} {p pos : Pos} {e : Expr} {es : List Expr} {t : TA} (D : ua X.prog X.w X.K X.mg X.base x C k ps sp) (hr : Room (k + 1) X.A) (tk : Takes X W) (hg : Gl X x)
    (ha : PA X (e :: es) t) (hdb : (x == ("__debug__" : Str)) = false := by decide) (he : starEach (e :: es) X.env = (false, eval e X.env) :: starEach es X.env := by rfl) (hpl : (backTo pos (starEach es X.env)).any (·.1) = false := by rfl) :
    PE X (.Call (.Name x p) (e :: es) [] pos) (m7 C sp (WE W) t) := by
  obtain ⟨f, fd, M, h2, hb, F⟩ := D
  refine ⟨fun pins s σ H Q I h => wpAny_Call_Name_kw (ld_glob I hg h2 ?_ hdb)⟩
  refine PySem.W.callWith_K (first := []) (h₀ := X.base) I.ok.mod.kin M.kp (thn (ha.run pos pins s σ H _ I h) fun us s2 ⟨vs, H2, I2, r, q2⟩ => ⟨I2.kIn, ?_⟩) he hpl
  exact wu (us := us) (vs := vs) M F hr hb (passAt tk σ) I2 r q2
section
variable {P : Program} {w : World} {K : PySem.W.Frag} {mg : Str → Option Value} {base : Heap}
end
section
variable {W : WX} {H0 : Hp} {ρ ρ' : List Slot} {K : PySem.W.Frag} {f fa : Bool} {te t' ta tb tc td : TE} {X : XA} {α β γ δ ε S S1 R : Type} {A1 : α → Abs} {B1 : β → Abs} {D1 : δ → Abs} {C : Addr} {O : γ → List (Str × Abs)}
def l8 (K : PySem.W.Frag) (O : γ → List (Str × Abs)) : Rs γ → OutI
  | .ok c => .ret (O c)
  | .ex e => .exc (xP K e)
def ui (K : PySem.W.Frag) (A1 : α → Abs) (O : γ → List (Str × Abs)) (F : α → Option (Rs γ)) : List Abs → OutI → Prop := fun As o => ∃ a r, As = [A1 a] ∧ F a = some r ∧ o = l8 K O r
def Ia (K : PySem.W.Frag) (A1 : α → Abs) (B1 : β → Abs) (D1 : δ → Abs) (O : γ → List (Str × Abs)) (F : α → β → δ → Option (Rs γ)) : List Abs → OutI → Prop := fun As o => ∃ a b d r, As = [A1 a, B1 b, D1 d] ∧ F a b d = some r ∧ o = l8 K O r
def B9 {S R : Type} (m : Option (Fl S R)) : Option (Rs S) := m.bind fun fl => match fl with | .nx s => some (.ok s) | .ex e => some (.ex e) | .rt _ => none
theorem zy {xo dx : Addr} {m : Option (Fl γ Unit)} {c : Rs γ} {rest : List Slot} {t : TS} {W' : WX} (h : DB ⟨W', K⟩ H0 ρ t (aE K) m (fun s => .own (qo xo C dx (O s)) :: rest)) (e : B9 m = some c) : DS ⟨W', BY (l8 K O c)⟩ H0 ρ t (BZ xo C dx (l8 K O c)) aNo := by
  obtain ⟨fl, h1, h2⟩ := Option.bind_eq_some_iff.mp e
  cases fl with
  | nx s => cases h2; exact gm (h _ h1) fun r ⟨s', e', q⟩ => by cases e'; exact ⟨rest, q⟩
  | rt r => cases h2
  | ex r => cases h2; exact gm (h _ h1) fun r ⟨s', e', q⟩ => by cases e'
end
end Kj
namespace Kj
open PySem L2
theorem uO {H0 : Hp} {ρ : List Slot} {i : Nat} {a p C : Addr} {cls : Value} {d : Option Addr} {fs : List (Str × Int)} {fl : Str} {K : PySem.W.Frag} (hi : ρ[i]? = some (.dat (aXc a p fs))) (hc : cls = .ref C) (hd : d = some p) : DM H0 ρ (tXf a cls d C fl (tVar i)) true (aE K) (fs.lookup fl) := fun x e => FM hi hc hd e x rfl
end Kj

namespace Kj
open PySem L2
def rL (z y : Str) : Option Bool := match z.cps.toList with
  | [c] => some (decide (c ∈ y.cps.toList))
  | _ => none
def vD (z : Str) (n : Int) : Option Str := match z.cps.toList with
  | [c] => if 1 ≤ n ∧ n ≤ 1000 then some ⟨(List.replicate n.toNat c).toArray⟩ else none
  | _ => none
def ww {α : Type} (a : α) (k : Int) : Option (List α) := if 0 ≤ k ∧ k ≤ 1000 then some (List.replicate k.toNat a) else none
abbrev E9 : R2 := fun x y H Q => ∃ (c : Nat) (z : Str), x = .str ⟨#[c]⟩ ∧ y = .str z ∧ Q (.bl (decide (c ∈ z.cps.toList))) H
def xJ : R2 := fun x y H Q => ∃ (c : Nat) (n : Int), x = .str ⟨#[c]⟩ ∧ y = .int n ∧ 1 ≤ n ∧ n ≤ 1000 ∧ Q (.str ⟨(List.replicate n.toNat c).toArray⟩) H
theorem qV (c : Nat) : ∀ (n : Nat) (acc : Array Nat), List.foldl (fun x1 x2 => x1 ++ x2) acc (List.replicate n (#[c] : Array Nat)) = acc ++ (List.replicate n c).toArray
  | 0, acc => by simp
  | n + 1, acc => by
    rw [List.replicate_succ, List.foldl_cons, qV c n, List.replicate_succ, Array.append_assoc]
    congr 1
    simp
theorem AA {X : Cx} {pins : List (Addr × Obj)} {σ : St} {H : Hp} {s : Shared} (I : L2.Inv X pins σ H s) (t : Nat) : L2.Inv X pins σ H ⟨s.heap, s.gens, s.drawn, t, s.os⟩ := by
  cases I
  constructor <;> assumption
theorem xY {X : Cx} : OpR X (binaryOp .Mult) xJ := fun pins s σ H x y v u Q I rx ry h => by
  obtain ⟨c, n, rfl, rfl, h1, h2, q⟩ := h
  obtain ⟨t, rfl⟩ := rx
  obtain ⟨t', rfl⟩ := ry
  have lc : (⟨#[c]⟩ : Str).length = 1 := rfl
  refine PySem.P.mul_str (by simp; omega) (fun _ _ => ?_) (fun _ _ => ?_) ?_
  · rw [lc]
    have : (1 : Int) ≤ (2 ^ 63 - 1) / n := (Int.le_ediv_iff_mul_le (by omega)).mpr (by omega)
    show ¬ ((1 : Nat) : Int) > _
    omega
  · rw [lc]
    unfold Builtin.Str.tooLong
    simp [sizeLine_eq]
    omega
  · rw [if_neg (by omega)]
    by_cases e : n = 1
    · subst e
      exact ⟨.str ⟨#[c]⟩, H, I, ⟨t, rfl⟩, q⟩
    · rw [if_neg (by simp [lc, e])]
      rw [qV, Array.empty_append]
      unfold Made.post
      refine ⟨?_, .str _, H, AA I _, ⟨_, rfl⟩, q⟩
      show ((List.replicate n.toNat c).toArray).size ≤ sizeLine
      simp [sizeLine_eq]
      omega
section
variable {H0 : Hp} {ρ : List Slot} {K : PySem.W.Frag} {f fa fb : Bool} {ta tb : TE}
theorem sV {z : Str} {c : Nat} (h : z.cps.toList = [c]) : z = ⟨#[c]⟩ := by
  obtain ⟨⟨l⟩⟩ := z
  have h : l = [c] := h
  subst h
  rfl
theorem ze {ma mb : Option Str} (ha : DM H0 ρ ta fa (aE K) ma) (hb : DM H0 ρ tb fb (aE K) mb) : DM H0 ρ (tOp E9 ta tb) true (aE K) (b2 rL ma mb) := fun x e σ H Hr Q E k => by
  obtain ⟨z, y, h1, h2, h⟩ := cq e
  unfold rL at h
  split at h
  · rename_i c hz
    cases h
    have hz := sV hz
    subst hz
    refine ha _ h1 σ H Hr _ E fun v H1 Hr1 x1 a1 => hb _ h2 σ H1 Hr1 _ (E.ext x1) fun w H2 Hr2 x2 a2 => ?_
    cases a1
    cases a2
    exact ⟨c, y, rfl, rfl, k _ H2 Hr2 (x1.trans x2) (.bl _)⟩
  · cases h
theorem Bg {ma : Option Str} {mb : Option Int} (ha : DM H0 ρ ta fa (aE K) ma) (hb : DM H0 ρ tb fb (aE K) mb) : DM H0 ρ (tOp xJ ta tb) true (aE K) (b2 vD ma mb) := fun x e σ H Hr Q E k => by
  obtain ⟨z, n, h1, h2, h⟩ := cq e
  unfold vD at h
  split at h
  · rename_i c hz
    split at h
    · rename_i hn
      cases h
      have hz := sV hz
      subst hz
      refine ha _ h1 σ H Hr _ E fun v H1 Hr1 x1 a1 => hb _ h2 σ H1 Hr1 _ (E.ext x1) fun w H2 Hr2 x2 a2 => ?_
      cases a1
      cases a2
      exact ⟨c, n, rfl, rfl, hn.1, hn.2, k _ H2 Hr2 (x1.trans x2) (.str _)⟩
    · cases h
  · cases h
theorem Be {α : Type} [Enc α] [Flt α] {ma : Option α} {mb : Option Int} (ha : DM H0 ρ ta fa (aE K) ma) (hb : DM H0 ρ tb fb (aE K) mb) : DM H0 ρ (tOp rRep (tLst (tCons ta tNil)) tb) true (aE K) (b2 ww ma mb) := fun x e σ H Hr Q E k => by
  obtain ⟨a, n, h1, h2, h⟩ := cq e
  unfold ww at h
  split at h
  · rename_i hn
    cases h
    refine ha _ h1 σ H Hr _ E fun v H1 Hr1 x1 a1 => ⟨show 1 ≤ sizeLine by decide, fun p hp => ?_⟩
    have ev := DN (Flt.fl a) a1
    have xp : Ext H1 Hr1 (upd H1 p (.lst [v])) (upd Hr1 p (.lst [v])) := Ext.lay x1.s hp
    have E2 := (E.ext x1).ext xp
    refine hb _ h2 σ _ _ _ E2 fun w H2 Hr2 x2 a2 => ?_
    cases a2
    refine ⟨p, n, [v], rfl, rfl, x2.h _ _ upd_same, by omega, by omega, by simp [sizeLine_eq]; omega, fun q hq => ?_⟩
    have er : (List.replicate n.toNat [v]).flatten = wv (List.replicate n.toNat a) := by
      rw [ev]
      generalize n.toNat = j
      induction j with
      | zero => rfl
      | succ j ih => rw [List.replicate_succ, List.flatten_cons, ih, List.replicate_succ]; rfl
    rw [er]
    have x12 := (x1.trans xp).trans x2
    exact k _ _ _ (x12.trans (Ext.lay x2.s hq)) (.lst (SqL.of (ie true (E2.ext x2).base hq)) (ro _))
  · cases h
end
end Kj

namespace Kj
open PySem L2
def oOb (Pa : Addr → Prop) (C : Addr) (fas : List (Str × Abs)) : AbsO := ⟨fun a o H => Pa a ∧ ∃ dx fs, o = .ins C dx fs ∧ FAll fas fs H, fun _ _ _ _ s ⟨pa, dx, fs, e, q⟩ => ⟨pa, dx, fs, e, q.mono s⟩⟩
def IJ (B : AbsO) (C : Addr) (fas : List (Str × Abs)) : Prop := ∀ p o H, B.p p o H → ∃ dx fs, o = .ins C dx fs ∧ FAll fas fs H
section
variable {Gw : WK} {C' : WZ} {H0 : Hp} {ρ ρ' : List Slot} {K : PySem.W.Frag} {f fa fb : Bool} {ta tb tc te : TE} {α β γ S S1 R : Type} {A : R → Abs} {Bs : S → List Slot} {t u w : TS} {C : Addr} {fas : List (Str × Abs)} {B : AbsO}
end
def HR (C : Addr) (S : List (Str × Abs) → List Abs → OutI → Prop) : Sp := fun vs H Q E => ∃ p dx fs fas As O rest Hr, vs = .ref p :: rest ∧ H p = some (.ins C dx fs) ∧ FAll fas fs Hr ∧ S fas As O ∧ Same Hr (rm H p) ∧ AllP As rest Hr ∧ match O with
  | .ret fas' => ∀ H' Hr' dx' fs', Ext (rm H p) Hr (rm H' p) Hr' → H' p = some (.ins C dx' fs') → FAll fas' fs' Hr' → Q .non H'
  | .exc X => ∀ cls d H', Same H H' → X cls d H' → E cls d H'
section
variable {P : Program} {w : World} {K : PySem.W.Frag} {mg : Str → Option Value} {base : Heap}
end
end Kj

namespace Kj
open PySem L2
section
variable {Gw : WK} {C' : WZ} {W : WX} {H0 : Hp} {ρ ρ' : List Slot} {K : PySem.W.Frag} {f fa fb : Bool} {ta tb tc te : TE} {α β γ S S1 R : Type} {A : R → Abs} {Bs : S → List Slot} {u w : TS} {C : Addr} {fas fas' : List (Str × Abs)} {B : AbsO} {X : XA} {Pa : Addr → Prop}
def sT1 (K : PySem.W.Frag) (O : γ → List (Str × Abs)) (F : γ → Option (Rs γ)) : List (Str × Abs) → List Abs → OutI → Prop := fun fas As o => ∃ c r, fas = O c ∧ As = [] ∧ F c = some r ∧ o = l8 K O r
def sT2 (K : PySem.W.Frag) (O : γ → List (Str × Abs)) (A1 : α → Abs) (F : γ → α → Option (Rs γ)) : List (Str × Abs) → List Abs → OutI → Prop := fun fas As o => ∃ c a r, fas = O c ∧ As = [A1 a] ∧ F c a = some r ∧ o = l8 K O r
def sT3 (K : PySem.W.Frag) (O : γ → List (Str × Abs)) (A1 : α → Abs) (B1 : β → Abs) (F : γ → α → β → Option (Rs γ)) : List (Str × Abs) → List Abs → OutI → Prop := fun fas As o => ∃ c a b r, fas = O c ∧ As = [A1 a, B1 b] ∧ F c a b = some r ∧ o = l8 K O r
end
end Kj


namespace Kj
open PySem L2
def xB (z y : Str) : Option (List Str) := if (y.length == 0) = false ∧ z.length + 2 ≤ 1000000 then some (Txt.split z y) else none
def Hw (z : Str) (lo hi : Option Int) : Option Str := if z.length ≤ 1000000 then some (cutS z lo hi) else none
def HA (z y : Str) : Option Str := if z.length + y.length ≤ 1000000 then some (z ++ y) else none
section
variable {H0 : Hp} {ρ : List Slot} {K : PySem.W.Frag} {f fa fb : Bool} {ta tb te : TE} {tl th : TO}
end
end Kj

namespace Kj
open PySem L2
def DMn (H0 : Hp) (ρ : List Slot) (t : TE) {γ : Type} (B : γ → AbsO) (m : Option γ) : Prop := ∀ c, m = some c → ∀ (σ : St) (H Hr : Hp) (Q : VK), EnvOk H0 σ ρ H Hr →
  (∀ p o H1 Hr1, Ext H Hr H1 Hr1 → H1 p = none → (B c).p p o (mns Hr1 H0) → Q (.ref p) (upd H1 p o)) → t σ H Q
abbrev Im (C : Addr) (fas : List (Str × Abs)) : AbsO := oOb (fun _ => True) C fas
section
variable {Gw : WK} {C' : WZ} {H0 : Hp} {ρ ρ' : List Slot} {K : PySem.W.Frag} {f fa fb fc : Bool} {ta tb tc td te : TE} {α β γ δ ε S S1 R : Type} {A : R → Abs} {Bs : S → List Slot} {t u w : TS} {C : Addr} {fas : List (Str × Abs)} {B : γ → AbsO} {O : γ → List (Str × Abs)}
end
def HS (C : Addr) (S : List (Str × Abs) → List Abs → List (Str × Abs) → Abs → Prop) : Sp := fun vs H Q _ => ∃ p dx fs fas As fas' R rest Hr, vs = .ref p :: rest ∧ H p = some (.ins C dx fs) ∧ FAll fas fs Hr ∧ S fas As fas' R ∧ Same Hr (rm H p) ∧ AllP As rest Hr ∧
  ∀ v H' Hr' dx' fs', Ext (rm H p) Hr (rm H' p) Hr' → H' p = some (.ins C dx' fs') → FAll fas' fs' Hr' → R.p v Hr' → Q v H'
def HB (xo C : Addr) (fas : List (Str × Abs)) (R : Abs) : Abs := ⟨fun v G => R.p v (rm G xo) ∧ ∃ dx fs, G xo = some (.ins C dx fs) ∧ FAll fas fs (rm G xo), fun v G G' s ⟨r, dx, fs, e, q⟩ => ⟨R.mono _ _ _ (gx xo s) r, dx, fs, s _ _ e, q.mono (gx xo s)⟩⟩
section
variable {α β δ ε ζ γ η : Type}
def sv0 (O : γ → List (Str × Abs)) (Rr : η → Abs) (F : γ → Option (γ × η)) : List (Str × Abs) → List Abs → List (Str × Abs) → Abs → Prop := fun fas As fas' R => ∃ c r, fas = O c ∧ As = [] ∧ F c = some r ∧ fas' = O r.1 ∧ R = Rr r.2
def sv1 (O : γ → List (Str × Abs)) (A : α → Abs) (Rr : η → Abs) (F : γ → α → Option (γ × η)) : List (Str × Abs) → List Abs → List (Str × Abs) → Abs → Prop := fun fas As fas' R => ∃ c a r, fas = O c ∧ As = [A a] ∧ F c a = some r ∧ fas' = O r.1 ∧ R = Rr r.2
def sv2 (O : γ → List (Str × Abs)) (A : α → Abs) (B : β → Abs) (Rr : η → Abs) (F : γ → α → β → Option (γ × η)) : List (Str × Abs) → List Abs → List (Str × Abs) → Abs → Prop := fun fas As fas' R => ∃ c a b r, fas = O c ∧ As = [A a, B b] ∧ F c a b = some r ∧ fas' = O r.1 ∧ R = Rr r.2
def sv3 (O : γ → List (Str × Abs)) (A : α → Abs) (B : β → Abs) (D : δ → Abs) (Rr : η → Abs) (F : γ → α → β → δ → Option (γ × η)) : List (Str × Abs) → List Abs → List (Str × Abs) → Abs → Prop := fun fas As fas' R => ∃ c a b d r, fas = O c ∧ As = [A a, B b, D d] ∧ F c a b d = some r ∧ fas' = O r.1 ∧ R = Rr r.2
def sv4 (O : γ → List (Str × Abs)) (A : α → Abs) (B : β → Abs) (D : δ → Abs) (E : ε → Abs) (Rr : η → Abs) (F : γ → α → β → δ → ε → Option (γ × η)) : List (Str × Abs) → List Abs → List (Str × Abs) → Abs → Prop := fun fas As fas' R => ∃ c a b d e r, fas = O c ∧ As = [A a, B b, D d, E e] ∧ F c a b d e = some r ∧ fas' = O r.1 ∧ R = Rr r.2
end
section
variable {P : Program} {w : World} {K : PySem.W.Frag} {mg : Str → Option Value} {base : Heap}
end
section
variable {Gw : WK} {C' : WZ} {H0 : Hp} {ρ ρ' : List Slot} {K : PySem.W.Frag} {f fa fb fc : Bool} {ta tb tc td te : TE} {α β γ δ ε ζ η S S1 R : Type} {A : R → Abs} {Bs : S → List Slot} {t u w : TS} {C : Addr} {fas fas' : List (Str × Abs)} {B : AbsO} {Pa : Addr → Prop}
def Fz {S γ η : Type} (m : Option (Fl S (γ × η))) : Option (γ × η) := m.bind fun fl => match fl with | .rt r => some r | _ => none
def kD {S γ : Type} (g : S → γ) (m : Option (Fl S (γ × Unit))) : Option (γ × Unit) := m.bind fun fl => match fl with | .rt r => some r | .nx s => some (g s, ()) | .ex _ => none
@[simp] theorem finTV_rt {S γ η : Type} {r : γ × η} : Fz (some (.rt r) : Option (Fl S (γ × η))) = some r := rfl
@[simp] theorem finTN_nx {S γ : Type} {g : S → γ} {s : S} : kD g (some (.nx s) : Option (Fl S (γ × Unit))) = some (g s, ()) := rfl
@[simp] theorem finTN_rt {S γ : Type} {g : S → γ} {r : γ × Unit} : kD g (some (.rt r) : Option (Fl S (γ × Unit))) = some r := rfl
def DMt (Pa : Addr → Prop) (C : Addr) (H0 : Hp) (ρ : List Slot) (i : Nat) (t : TE) (O : γ → List (Str × Abs)) (A : η → Abs) (m : Option (γ × η)) : Prop := ∀ r, m = some r → ∀ (σ : St) (H Hr : Hp) (Q : VK), EnvOk H0 σ ρ H Hr →
  (∀ v H' Hr', EnvOk H0 σ (ρ.set i (.own (oOb Pa C (O r.1)))) H' Hr' → Same Hr Hr' → (A r.2).p v (mns Hr' H0) → Q v H') → t σ H Q
variable {O : γ → List (Str × Abs)} {Ar : η → Abs} {i : Nat} {c : γ} {Ex : XK} {A1 : α → Abs} {B1 : β → Abs} {D1 : δ → Abs} {E1 : ε → Abs} {ma : Option α} {mb : Option β} {md : Option δ} {me : Option ε} {mth : Str}
def DTt (Pa : Addr → Prop) (C : Addr) (H0 : Hp) (ρ : List Slot) (i : Nat) (t : TT) (O : γ → List (Str × Abs)) (m : Option (γ × Bool)) : Prop := ∀ r, m = some r → ∀ (σ : St) (H Hr : Hp) (Q : Bool → Hp → Prop), EnvOk H0 σ ρ H Hr →
  (∀ H' Hr', EnvOk H0 σ (ρ.set i (.own (oOb Pa C (O r.1)))) H' Hr' → Same Hr Hr' → Q r.2 H') → t σ H Q
theorem EnvOk.same {σ : St} {H Hr : Hp} (E : EnvOk H0 σ ρ H Hr) (hi : ρ[i]? = some (.own (oOb Pa C (O c)))) : EnvOk H0 σ (ρ.set i (.own (oOb Pa C (O c)))) H Hr := by
  have : ρ.set i (.own (oOb Pa C (O c))) = ρ := by
    apply List.ext_getElem?
    intro j
    by_cases e : j = i
    · subst e; rw [List.getElem?_set_self (List.getElem?_eq_some_iff.mp hi).1, hi]
    · rw [List.getElem?_set_ne (Ne.symm e)]
  rw [this]; exact E
def orT (c : γ) (ma : Option Bool) (mb : Option (γ × Bool)) : Option (γ × Bool) := ma.bind fun a => if a = true then some (c, true) else mb
def IB (c : γ) (ma : Option Bool) (mb : Option (γ × Bool)) : Option (γ × Bool) := ma.bind fun a => if a = true then mb else some (c, false)
end
end Kj

namespace Kj
open PySem L2
theorem z9 {X : Cx} {K : PySem.W.Frag} (h : X.K = K) {tg l : Expr} {tl : TE} (hl : PE X l tl) : PI X tg l (iTup K tl) := by subst h; exact pi_tup hl
def ji {α : Type} (x : Tp α) : Option (List α) := some x.items
def BW {α : Type} (t : Tp α) (x : α) : Option (Tp α) := if t.items.length < 100000 then some ⟨t.items ++ [x]⟩ else none
def EZ {α : Type} (t : Tp α) (x : α) : Option (List α) := if t.items.length < 100000 then some (t.items ++ [x]) else none
def Fq {α : Type} [DecidableEq α] (x : α) (t : Tp α) : Option Bool := some (decide (x ∈ t.items))
def vA {α : Type} [DecidableEq α] (x : α) (t : Tp α) : Option Bool := some (!decide (x ∈ t.items))
def Go (n : Int) : Option (Tp Int) := (Gp n).map fun xs => ⟨xs⟩
section
variable {Gw : WK} {C' : WZ} {H0 : Hp} {ρ ρ' : List Slot} {K : PySem.W.Frag} {f fa fb fc : Bool} {ta tb tc td te : TE} {α β γ δ ε S S1 R : Type} {A : R → Abs} {Bs : S → List Slot} {t u w : TS} {C : Addr} {fas : List (Str × Abs)} {B : AbsO}
theorem Dv {ds : List PyData} {tl : TE} (h : DE H0 ρ tl f (aD K (.tuple ds))) : DW H0 ρ (iTup K tl) ds.length f (fun i => aD K (ds.getD i .none)) := fun σ H Hr R E k => by
  refine h σ H Hr _ E fun v H1 Hr1 x1 a1 => ?_
  cases a1 with
  | @tup a xs _ hq hA =>
    refine ⟨a, rfl, ⟨xs, l4 ((bD f).trans x1.s) hq⟩, k _ H1 Hr1 x1 fun G Gr s1 s2 s3 => ?_⟩
    have q : SqT K G a xs := l4 ((bD f).trans (s1.trans s2)) hq
    have hl := dD hA
    refine ⟨fun i hi => ⟨⟨xs, xs[i]'(by omega), q, List.getElem?_eq_getElem _⟩, ?_⟩, ⟨xs, q, by omega⟩⟩
    rintro x G' ⟨rfl, hx⟩
    obtain ⟨d, e1, e2⟩ := hU hA (hx xs q)
    refine ⟨Gr, Ext.refl s2, ?_⟩
    show Dp K _ x (ds.getD i .none)
    rw [List.getD_eq_getElem?_getD, e1]
    exact dE (cK f H0 s1) _ _ e2
theorem AW [Enc α] {m : Option (Tp α)} (h : DM H0 ρ te f (aE K) m) : DWm H0 ρ (iTup K te) f (aE K) (b1 ji m) := fun xs e => by
  obtain ⟨x, h1, h2⟩ := cC e
  cases h2
  have w := Dv (ds := x.items.map en) (h x h1)
  rw [List.length_map] at w
  refine jJ w fun i hi => ?_
  rw [List.getD_eq_getElem?_getD, List.getElem?_map, List.getElem?_eq_getElem hi]
  rfl
end
end Kj

namespace Kj
open PySem L2
inductive Hn where | nil deriving DecidableEq
structure Hc (α β : Type) where
  hd : α
  tl : β
  deriving DecidableEq
structure Ht (α : Type) where
  items : List α
  deriving DecidableEq
structure Hlst (β : Type) where
  v : β
  deriving DecidableEq
class HEnc (β : Type) where
  items : β → List PyData
  plain : ∀ x, PyData.plainAll (items x) = true
  dep : Nat
  depth : ∀ x, PyData.depthAll (items x) ≤ dep
  eqv : ∀ x y, PyData.eqvAll (items x) (items y) = true ↔ x = y
instance : HEnc Hn := ⟨fun _ => [], fun _ => rfl, 0, fun _ => by simp [PyData.depthAll], fun x y => by cases x; cases y; simp [PyData.eqvAll]⟩
instance {α : Type} [Enc α] : HEnc (Ht α) := ⟨fun x => x.items.map en, fun x => iO x.items, Enc.dep α, fun x => jL x.items, fun x y => by rw [mI]; cases x; cases y; simp⟩
instance {α β : Type} [Enc α] [HEnc β] : HEnc (Hc α β) := ⟨fun x => en x.hd :: HEnc.items x.tl, fun x => by simp [PyData.plainAll, Enc.plain, HEnc.plain], max (Enc.dep α) (HEnc.dep β), fun x => by
  have := ge x.hd; have := HEnc.depth x.tl
  simp only [PyData.depthAll]; omega, fun x y => by cases x; cases y; simp [PyData.eqvAll, Enc.eqv, HEnc.eqv]⟩
instance {β : Type} [HEnc β] : Enc (Hlst β) := ⟨fun x => .list (HEnc.items x.v), fun x => by simp only [PyData.plain]; exact HEnc.plain x.v, HEnc.dep β + 1, fun x => by have := HEnc.depth x.v; simp only [PyData.depth]; omega, fun x y => by
  simp only [PyData.eqv]; rw [HEnc.eqv]; cases x; cases y; simp⟩
def hc {α β : Type} (x : α) (y : β) : Option (Hc α β) := some ⟨x, y⟩
def hlM {β : Type} (x : β) : Option (Hlst β) := some ⟨x⟩
def hlT {α : Type} (xs : List α) : Option (Hlst (Ht α)) := some ⟨⟨xs⟩⟩
def Ho {β γ δ : Type} [HEnc β] [HEnc γ] (g : β → γ → δ) (x : Hlst β) (y : Hlst γ) : Option (Hlst δ) := if (HEnc.items x.v).length + (HEnc.items y.v).length ≤ 100000 then some ⟨g x.v y.v⟩ else none
section
variable {Gw : WK} {C' : WZ} {H0 : Hp} {ρ ρ' : List Slot} {K : PySem.W.Frag} {f fa fb fc : Bool} {ta tb tc td te : TE} {α β γ δ ε S S1 R : Type} {A : R → Abs} {Bs : S → List Slot} {t u w : TS} {C : Addr} {fas : List (Str × Abs)}
def DAh (H0 : Hp) (K : PySem.W.Frag) (ρ : List Slot) (t : TA) (f : Bool) {β : Type} [HEnc β] (m : Option β) : Prop := ∀ x, m = some x → DAd H0 K ρ t f (HEnc.items x)
def oKp (Hk : Hp) (xo C : Addr) (fas : List (Str × Abs)) : AbsO := ⟨fun a o G => a = xo ∧ Same Hk G ∧ ∃ dx fs, o = .ins C dx fs ∧ FAll fas fs G, fun _ _ _ _ s ⟨e, k, dx, fs, e2, q⟩ => ⟨e, k.trans s, dx, fs, e2, q.mono s⟩⟩
def HW (C : Addr) (S : List (Str × Abs) → List (Str × Abs) → Prop) : Sp := fun vs H Q _ => ∃ p dx fs fas fas' Hr, vs = [.ref p] ∧ H p = some (.ins C dx fs) ∧ FAll fas fs Hr ∧ S fas fas' ∧ Same Hr (rm H p) ∧
  ∀ x dx1 fs1 dx2 fs2 H' Hr', x ≠ p → H x = none → Hr' x = none → H' p = some (.ins C dx1 fs1) → H' x = some (.ins C dx2 fs2) → Ext (rm H p) Hr (rm (rm H' p) x) Hr' → FAll fas fs1 Hr' → FAll fas' fs2 Hr' → Q (.ref x) H'
def aTw (Hk : Hp) (xo C : Addr) (fas fas' : List (Str × Abs)) : Abs := ⟨fun v G => ∃ x dx1 fs1 dx2 fs2, v = .ref x ∧ x ≠ xo ∧ Hk x = none ∧ G xo = some (.ins C dx1 fs1) ∧ G x = some (.ins C dx2 fs2) ∧ FAll fas fs1 (rm (rm G xo) x) ∧ FAll fas' fs2 (rm (rm G xo) x),
  fun v G G' s ⟨x, dx1, fs1, dx2, fs2, e, n, h, e1, e2, q1, q2⟩ => ⟨x, dx1, fs1, dx2, fs2, e, n, h, s _ _ e1, s _ _ e2, q1.mono (gx x (gx xo s)), q2.mono (gx x (gx xo s))⟩⟩
def svn (O : γ → List (Str × Abs)) (F : γ → Option γ) : List (Str × Abs) → List (Str × Abs) → Prop := fun fas fas' => ∃ c r, fas = O c ∧ F c = some r ∧ fas' = O r
end
section
variable {P : Program} {w : World} {K : PySem.W.Frag} {mg : Str → Option Value} {base : Heap}
end
section
variable {Gw : WK} {C' : WZ} {H0 : Hp} {ρ ρ' : List Slot} {K : PySem.W.Frag} {f fa fb fc : Bool} {ta tb tc td te : TE} {α β γ δ ε S S1 R : Type} {A : R → Abs} {Bs : S → List Slot} {t u w : TS} {C : Addr} {fas : List (Str × Abs)} {Pa : Addr → Prop}
end
end Kj

namespace Kj
open PySem L2
theorem zU {K : PySem.W.Frag} {G : Hp} {p a C dx : Addr} {fs : List (Str × V)} {xs : List V} (hp : G p = some (.ins C dx fs)) (h : SqL K G a xs) : SqL K (rm G p) a xs := by
  have ne : ∀ {o : HO}, G a = some o → (∀ C dx fs, o ≠ .ins C dx fs) → a ≠ p := fun {o} e n z => by subst z; rw [hp] at e; cases e; exact n _ _ _ rfl
  rcases h with (h | ⟨o, h⟩) | h
  · exact .inl (.inl (by rw [jC (ne h (fun _ _ _ z => by cases z))]; exact h))
  · exact .inl (.inr ⟨o, by rw [jC (ne h (fun _ _ _ z => by cases z))]; exact h⟩)
  · exact .inr h
theorem zT {K : PySem.W.Frag} {G : Hp} {p a C dx : Addr} {fs : List (Str × V)} {xs : List V} (hp : G p = some (.ins C dx fs)) (h : SqT K G a xs) : SqT K (rm G p) a xs := by
  have ne : ∀ {o : HO}, G a = some o → (∀ C dx fs, o ≠ .ins C dx fs) → a ≠ p := fun {o} e n z => by subst z; rw [hp] at e; cases e; exact n _ _ _ rfl
  rcases h with (h | ⟨o, h⟩) | h
  · exact .inl (.inl (by rw [jC (ne h (fun _ _ _ z => by cases z))]; exact h))
  · exact .inl (.inr ⟨o, by rw [jC (ne h (fun _ _ _ z => by cases z))]; exact h⟩)
  · exact .inr h
mutual
theorem DP {K : PySem.W.Frag} {G : Hp} {p C dx : Addr} {fs : List (Str × V)} (hp : G p = some (.ins C dx fs)) : ∀ (d : PyData) (v : V), Dp K G v d → Dp K (rm G p) v d
  | .none, _, h => by cases h; exact .non
  | .bool b, _, h => by cases h; exact .bl b
  | .int i, _, h => by cases h; exact .int i
  | .str x, _, h => by cases h; exact .str x
  | .list ds, _, h => by
    cases h with
    | lst hs ha => exact .lst (zU hp hs) (dpa_off hp ds _ ha)
  | .tuple ds, _, h => by
    cases h with
    | tup hs ha => exact .tup (zT hp hs) (dpa_off hp ds _ ha)
  | .dict _, _, h => by cases h
theorem dpa_off {K : PySem.W.Frag} {G : Hp} {p C dx : Addr} {fs : List (Str × V)} (hp : G p = some (.ins C dx fs)) : ∀ (ds : List PyData) (vs : List V), DpAll K G vs ds → DpAll K (rm G p) vs ds
  | [], _, h => by cases h; exact .nil
  | d :: ds, _, h => by
    cases h with
    | cons h1 h2 => exact .cons (DP hp d _ h1) (dpa_off hp ds _ h2)
end
section
variable {H0 : Hp} {ρ ρ' : List Slot} {K : PySem.W.Frag} {f fa fb : Bool} {ta tb te : TE} {α β γ : Type} {C : Addr} {fas : List (Str × Abs)} {B : AbsO}
def II (C : Addr) (A : α → Abs) : Prop := ∀ x v G p dx fs, G p = some (.ins C dx fs) → (A x).p v G → (A x).p v (rm G p)
end
end Kj

namespace Kj
open PySem L2
def Ap (c w : Int) : Int := if c = 0 then w % 5 / 2 else if c = 1 then w % 2 else if c = 2 then (if w % 7 = 1 then 1 else if w % 7 = 4 then 2 else 0) else 0
def yf (d2 w : Int) (k : Nat) : Int := if k < 2 then (d2 / 4 + k) % 2 else Ap (d2 % 4) w
def CV (d2 w : Int) (k : Nat) (v : Int) (t : List (List Int) × List (List Int)) : List (List Int) × List (List Int) :=
  if yf d2 w k = 0 then (rp w v t.1, t.2) else if yf d2 w k = 1 then (t.1, rp w v t.2) else t
def yg (many : Int) (d : List Int) : Nat → List (List Int) × List (List Int)
  | 0 => (List.replicate (1 + d.getD 0 0 % 3).toNat [], List.replicate (1 + d.getD 1 0 % 3).toNat [])
  | k + 1 => CV (d.getD 2 0) (d.getD (3 + k) 0) k (((k : Int) + d.getD 2 0) % many) (yg many d k)
@[irreducible] def f_law_lying (many : Int) (d : List Int) : Option (List (List (List Int))) :=
  if 0 ≤ many ∧ many ≤ 1000 ∧ many + 3 ≤ d.length then some [(yg many d many.toNat).1, (yg many d many.toNat).2] else none
abbrev Fu (K : PySem.W.Frag) : TE := tOp (rIxL K) (tLst (tCons (uU (nj (tVar 5) (cI 5)) (cI 2)) (tCons (nj (tVar 5) (cI 2)) (tCons (tOp (rIxL K) (tLst (tCons (cI 0) (tCons (cI 1) (tCons (cI 0) (tCons (cI 0) (tCons (cI 2) (tCons (cI 0) (tCons (cI 0) tNil)))))))) (nj (tVar 5) (cI 7))) (tCons (cI 0) tNil))))) (nj (tOp (rIxL K) (tVar 1) (cI 2)) (cI 4))
abbrev C8 (K : PySem.W.Frag) : TE := nj (tOp (rI0 fun i j => .int (i + j)) (uU (tOp (rIxL K) (tVar 1) (cI 2)) (cI 4)) (tVar 4)) (cI 2)
abbrev Fn (K : PySem.W.Frag) : TE := tBM K "list" B8 (tVar 7) (tCons (nj (uU (tVar 5) (cI 105)) (tOp (rI0 fun i j => .int (i + j)) (yi K (tVar 7)) (cI 1))) (tCons (nj (tOp (rI0 fun i j => .int (i + j)) (tVar 4) (tOp (rIxL K) (tVar 1) (cI 2))) (tVar 0)) tNil))
abbrev FZ (K : PySem.W.Frag) : TS := tSeq (tAsg (Ci K) (gName 5)) (tSeq (tAsg (Fu K) (gName 6)) (tSeq (tIfS (tTest (tOp (rI0 fun i j => .bl (decide (i < j))) (tVar 4) (cI 2))) (tSeq (tAsg (C8 K) (gName 6)) tNext) tNext) (tSeq (tIfS (tTest (tOp (rI0 fun i j => .bl (decide (i < j))) (tVar 6) (cI 2)))
  (tSeq (tAsg (E6 K) (gName 7)) (tSeq (tIfS (tTest (tOp (rI0 fun i j => .bl (decide (i < j))) (yi K (tVar 7)) (cI 12))) (tSeq (tDrop (Fn K)) tNext) tNext) tNext)) tNext) tNext)))
abbrev GI (K : PySem.W.Frag) : TS := tSeq (tAsg (tLst (tCons (emT K 0) (tCons (emT K 1) tNil))) (gName 2)) (tSeq (tFor (iRng1 (tCons (tVar 0) tNil)) (gName 4) (FZ K)) (tSeq (tRet (tVar 2)) tNext))
section
variable {H0 : Hp} {K : PySem.W.Frag}
abbrev Ie (K : PySem.W.Frag) (many : Int) (d : List Int) : List Slot := [.dat (aE K many), .dat (aE K d), .no, .no, .no, .no, .no, .no]
end
end Kj

namespace Kj
open PySem L2
section
variable {H0 : Hp} {ρ : List Slot} {K : PySem.W.Frag} {f fa fb : Bool} {ta tb te : TE} {α : Type}
end
end Kj

namespace Kj
open PySem L2
structure TableT where
  start : DealT
  lying : DealT
  left : Tp Int
  current : Option Int
  said : Int
  noted : Tp (P3 Int Int (P4 Int Int Int Int))
  closed : Tp (P4 Int (Option Int) Bool Bool)
  won : P2 Int Int
  missed : P2 Int Int
  owed : Option (P2 Int Int)
  deriving DecidableEq
abbrev Ez (K : PySem.W.Frag) : Addr := He.ga K "Table"
abbrev CS (K : PySem.W.Frag) (t : TableT) : List (Str × Abs) := [("start", Cn K t.start), ("lying", Cn K t.lying), ("left", aE K t.left), ("current", aE K t.current), ("said", aE K t.said), ("noted", aE K t.noted), ("closed", aE K t.closed), ("won", aE K t.won), ("missed", aE K t.missed), ("owed", aE K t.owed)]
abbrev zK (K : PySem.W.Frag) (t : TableT) : Abs := kf (Ez K) (CS K t)
def pL (ac : DealT) (ak : Int) : Option DealT := ba (S := Unit) (R := DealT) 
  (b1 (fun _ => (b1 (fun cb => (b1 (fun r => some (Fl.rt r)) (b3 dO ((some ac).map DealT.source) (b2 atI (some cb) (some (0 : Int))) (b2 atI (some cb) (some (1 : Int))))))
    (b2 d7 (some ac) (some ak)))) (b2 iN (some ac) (some ak)))
def iB (di : TableT) : Option Unit := jr (S := Unit) 
  (ah (S1 := Unit) (a9 (((some di).map TableT.current).map Option.isNone)
    none
    (some (Fl.nx ()))) fun s1 => (some (Fl.nx ())))
def js (di : TableT) : Option Unit := jr (S := Unit) 
  (ah (S1 := Unit) (a9 (((some di).map TableT.current).map Option.isSome)
    none
    (some (Fl.nx ()))) fun s1 => (some (Fl.nx ())))
def hE (di : TableT) : Option (List Str) := ba (S := Unit) (R := (List Str)) 
  (b1 (fun _ => (b1 (fun r => some (Fl.rt r)) (b2 bM (b1 bA ((some di).map TableT.lying) ) (((some di).map TableT.current).bind id)))) (b1 iB (some di)))
def i8 (ac : TableT) : Option (Option Int) := ba (S := Unit) (R := (Option Int)) 
  (ah (S1 := Unit) (a9 (((some ac).map TableT.owed).map Option.isSome)
    (b1 (fun r => some (Fl.rt r)) (some (none : (Option Int))))
    (some (Fl.nx ()))) fun s1 => (b1 (fun xr => (b1 (fun r => some (Fl.rt r)) (a9 ((some xr).map fun xs => !xs.isEmpty) ((b2 atI (some xr) (some (0 : Int))).map some) (some (none : (Option Int))))))
    (b1 (lcM fun x2 => lcE (dC ((b2 eL ((some ac).map TableT.lying) (some x2)).map fun xs => !xs.isEmpty)) (some x2)) (b1 rngM (some (2 : Int))))))
def ik (di : TableT) : Option Unit := jr (S := Unit) 
  (ah (S1 := Unit) (a9 ((b1 i8 (some di) ).map Option.isSome)
    none
    (some (Fl.nx ()))) fun s1 => (some (Fl.nx ())))
def rN (aI : DealT) (ak : Int) (mY : (Tp (P3 Int Int (P4 Int Int Int Int)))) : Option (List Bool) := ba (S := Unit) (R := (List Bool)) 
  (b1 (fun zQ => (b1 (fun r => some (Fl.rt r)) (b1 (lcM fun x2 => lcE (some true) (b2 inM (some x2) (some zQ))) (b1 rngM (some (2 : Int))))))
    (b1 (lcM fun x1 => lcE (b3 uF (some aI) (some ak) (some x1.c)) (some x1.a)) (b1 ji (some mY))))
def wU (aI : DealT) (ak : Int) (mY : (Tp (P3 Int Int (P4 Int Int Int Int)))) : Option (Option Int) := ba (S := Unit) (R := (Option Int)) 
  (b1 (fun e9 => (ah (S1 := Unit) (a9 ((some e9).map Option.isNone)
    (b1 (fun r => some (Fl.rt r)) (some (none : (Option Int))))
    (some (Fl.nx ()))) fun s1 => (b1 (fun sK => (b1 (fun r => some (Fl.rt r)) ((a9 ((some sK).map fun xs => !xs.isEmpty) (b2 atI (some sK) (some (0 : Int))) (((some e9).bind id).map P3.a)).map some)))
    (b1 (lcM fun x2 => lcE (b3 pA (some aI) (some ak) (some x2.c)) (some x2.a)) (b1 ji (some mY))))))
    (b2 cY (some aI) (some ak)))
def nz (jA : (P2 Int Int)) (xn : (List Bool)) : Option (P2 Int Int) := ba (S := Unit) (R := (P2 Int Int)) 
  (b1 (fun r => some (Fl.rt r)) (b2 mk2 (b2 cN ((some jA).map P2.a) (b1 qq (b2 atI (some xn) (some (0 : Int))))) (b2 cN ((some jA).map P2.b) (b1 qq (b2 atI (some xn) (some (1 : Int)))))))
def pB (aI : DealT) (ak : Int) (cH : (Option Int)) (iS : (List Bool)) : Option (P2 Int Int) := ba (S := Unit) (R := (P2 Int Int)) 
  (b1 (fun lU => (b1 (fun r => some (Fl.rt r)) (b2 nz (b2 mk2 (b1 qq (b2 atI (some iS) (some (1 : Int)))) (b1 qq (b2 atI (some iS) (some (0 : Int))))) (b1 aK (b2 ar (fG (some lU) (b2 eqM (some cH) ((some (0 : Int)).map some))) (b2 ar (fG (some lU) (b2 eqM (some cH) ((some (1 : Int)).map some))) (some ([] : List Bool))))))))
    (fG ((some cH).map Option.isSome) (b2 neM ((((b2 cY (some aI) (some ak)).bind id).map P3.a).map some) (some cH))))
def tR (aI : DealT) (kY : (P2 Int Int)) : Option (Option (P2 Int Int)) := ba (S := Unit) (R := (Option (P2 Int Int))) 
  (b1 (fun cH => (b1 (fun vg => (b1 (fun r => some (Fl.rt r)) (a9 (b2 gtI (some vg) (some (0 : Int))) ((b2 mk2 (some cH) (some vg)).map some) (some (none : (Option (P2 Int Int)))))))
    (b2 ya (b1 w7 (b2 jT ((some kY).map P2.a) ((some kY).map P2.b))) (b1 b7 (b2 eL (some aI) (some cH))))))
    (a9 (b2 gtI ((some kY).map P2.a) ((some kY).map P2.b)) (some (0 : Int)) (some (1 : Int))))
def nF (aI : DealT) : Option TableT := De (R := Unit)
  (ah (S1 := Unit) (a9 (orM (dC ((b2 eL (some aI) (some (0 : Int))).map fun xs => !xs.isEmpty)) (dC ((b2 eL (some aI) (some (1 : Int))).map fun xs => !xs.isEmpty))) none (some (Fl.nx ()))) fun _ => (b1 (fun y0 => (b1 (fun y1 => (b1 (fun y2 => (b1 (fun y3 => (b1 (fun y4 => (b1 (fun y5 => (b1 (fun y6 => (b1 (fun y7 => (b1 (fun y8 => (b1 (fun y9 => (some (Fl.nx (⟨y0, y1, y2, y3, y4, y5, y6, y7, y8, y9⟩ : TableT)))) (some (none : (Option (P2 Int Int)))))) (b2 mk2 (some (0 : Int)) (some (0 : Int))))) (b2 mk2 (some (0 : Int)) (some (0 : Int))))) (some (⟨[]⟩ : (Tp (P4 Int (Option Int) Bool Bool)))))) (some (⟨[]⟩ : (Tp (P3 Int Int (P4 Int Int Int Int))))))) (some (0 : Int)))) (some (none : (Option Int))))) (b1 Go (b1 dh (b1 bA (some aI) ) )))) (some aI))) (some aI)))
def mG (ac : TableT) : Option (TableT × Unit) := kD (S := TableT) (fun z => z)
  (b1 (fun _ => (b1 (fun y => (fun ac => (b1 (fun y => (fun ac => (b1 (fun y => (fun ac => (some (Fl.nx ac))) ({ ac with noted := y } : TableT)) (some (⟨[]⟩ : (Tp (P3 Int Int (P4 Int Int Int Int))))))) ({ ac with said := y } : TableT)) (some (0 : Int)))) ({ ac with current := y } : TableT)) (some (none : (Option Int))))) (b1 iB (some ac)))
def r5 (ac : TableT) (ak : Int) : Option (TableT × Unit) := kD (S := TableT) (fun z => z)
  (b1 (fun _ => (ah (S1 := Unit) (a9 ((some (TableT.owed ac)).map Option.isSome)
    none
    (some (Fl.nx ()))) fun s1 => (b1 (fun _ => (b1 (fun _ => (ah (S1 := Unit) (a9 (b2 vA (some ak) (some (TableT.left ac)))
    none
    (some (Fl.nx ()))) fun s2 => (b1 (fun y => (fun ac => (some (Fl.nx ac))) ({ ac with current := y } : TableT)) ((some ak).map some)))) (b2 cA (b1 bA (some (TableT.lying ac)) ) (some ak)))) (b1 js (some ac))))) (b1 ik (some ac)))
def tT (ac : TableT) : Option (TableT × Unit) := kD (S := TableT) (fun z => z)
  (ah (S1 := Unit) (a9 (b2 eqM ((some ac).map TableT.said) (b1 b7 (b1 hE (some ac))))
    none
    (some (Fl.nx ()))) fun s1 => (b1 (fun y => (fun ac => (some (Fl.nx ac))) ({ ac with said := ((fun i j => i + j) (TableT.said ac) y) } : TableT)) (some (1 : Int))))
def qD (ac : TableT) : Option (TableT × Unit) := kD (S := TableT) (fun z => z)
  (ah (S1 := Unit) (a9 (b2 ltI ((some ac).map TableT.said) (b1 b7 (b1 hE (some ac))))
    none
    (some (Fl.nx ()))) fun s1 => (b1 (fun ak => (b1 (fun iS => (b1 (fun cH => (b1 (fun kY => (ah (S1 := TableT) (a9 ((some cH).map Option.isSome)
    (b1 (fun y => (fun ac => (b1 (fun y => (fun ac => (some (Fl.nx ac))) ({ ac with won := y } : TableT)) (b2 nz (some (TableT.won ac)) (b1 aK (b2 ar (b2 eqM ((some cH).bind id) (some (0 : Int))) (b2 ar (b2 eqM ((some cH).bind id) (some (1 : Int))) (some ([] : List Bool)))))))) ({ ac with lying := y } : TableT)) (b2 pL (some (TableT.lying ac)) ((some ak).bind id)))
    (some (Fl.nx ac))) fun s2 => (b1 (fun y => (fun ac => (b1 (fun y => (fun ac => (b1 (fun y => (fun ac => (b1 (fun y => (fun ac => (b1 (fun r => (fun ac => (some (Fl.nx ac))) r.1) (mG ac))) ({ ac with closed := y } : TableT)) (b2 BW (some (TableT.closed ac)) (b4 mk4 ((some ak).bind id) (some cH) (b2 atI (some iS) (some (0 : Int))) (b2 atI (some iS) (some (1 : Int))))))) ({ ac with left := y } : TableT)) (b1 oU (b1 (lcM fun x3 => lcE (b2 neM ((some x3).map some) (some ak)) (some x3)) (b1 ji (some (TableT.left ac))))))) ({ ac with owed := y } : TableT)) (b2 tR (some (TableT.lying ac)) (some kY)))) ({ s2 with missed := y } : TableT)) (b2 nz (some (TableT.missed s2)) (some iS)))))
    (b4 pB (some (TableT.lying ac)) ((some ak).bind id) (some cH) (some iS))))
    (b3 wU (some (TableT.lying ac)) ((some ak).bind id) (some (TableT.noted ac)))))
    (b3 rN (some (TableT.lying ac)) ((some ak).bind id) (some (TableT.noted ac)))))
    (some (TableT.current ac))))
def mH (ac : TableT) : Option DealT := ba (S := Unit) (R := DealT) 
  (b1 (fun r => some (Fl.rt r)) ((some ac).map TableT.lying))
def el (ac : TableT) : Option (List Int) := ba (S := Unit) (R := (List Int)) 
  (b1 (fun r => some (Fl.rt r)) (b1 kC ((some ac).map TableT.left)))
def ju (ac : TableT) : Option (Option Int) := ba (S := Unit) (R := (Option Int)) 
  (b1 (fun r => some (Fl.rt r)) ((some ac).map TableT.current))
def gq (ac : TableT) : Option (List Str) := ba (S := Unit) (R := (List Str)) 
  (b1 (fun r => some (Fl.rt r)) (a9 (((some ac).map TableT.current).map Option.isNone) (b1 aK (some ([] : List Str))) (b3 cM (b1 hE (some ac)) ce (bN ((some ac).map TableT.said)))))
def oh (ac : TableT) : Option (List (P3 Int Int (P4 Int Int Int Int))) := ba (S := Unit) (R := (List (P3 Int Int (P4 Int Int Int Int)))) 
  (b1 (fun r => some (Fl.rt r)) (b1 kC ((some ac).map TableT.noted)))
def jI (ac : TableT) : Option (List (P4 Int (Option Int) Bool Bool)) := ba (S := Unit) (R := (List (P4 Int (Option Int) Bool Bool))) 
  (b1 (fun r => some (Fl.rt r)) (b1 kC ((some ac).map TableT.closed)))
def qB (ac : TableT) : Option (P2 Int Int) := ba (S := Unit) (R := (P2 Int Int)) 
  (b1 (fun r => some (Fl.rt r)) ((some ac).map TableT.won))
def pK (ac : TableT) : Option (P2 Int Int) := ba (S := Unit) (R := (P2 Int Int)) 
  (b1 (fun r => some (Fl.rt r)) ((some ac).map TableT.missed))
def nR (ac : TableT) : Option (Option (P2 Int Int)) := ba (S := Unit) (R := (Option (P2 Int Int))) 
  (b1 (fun r => some (Fl.rt r)) ((some ac).map TableT.owed))
def AV (ac : TableT) : Option (List Int) := ba (S := Unit) (R := (List Int)) 
  (b1 (fun r => some (Fl.rt r)) (b3 tS ((some ac).map TableT.lying) (b1 el (some ac) ) (b1 gq (some ac) )))
def wV (ac : TableT) (ak : Int) : Option (List Str) := ba (S := Unit) (R := (List Str)) 
  (b1 (fun r => some (Fl.rt r)) (b3 pC (b1 bA ((some ac).map TableT.lying) ) (b1 el (some ac) ) (some ak)))
def AU (ac : TableT) : Option (List (P2 (Tp Str) (P4 Int Int Int Int))) := ba (S := Unit) (R := (List (P2 (Tp Str) (P4 Int Int Int Int)))) 
  (b1 (fun r => some (Fl.rt r)) (b2 uG ((some ac).map TableT.lying) (b1 el (some ac) )))
def AT (ac : TableT) : Option TableT := ba (S := Unit) (R := TableT)
  (b1 (fun bF => (b1 (fun y => (fun bF => (b1 (fun y => (fun bF => (b1 (fun y => (fun bF => (b1 (fun y => (fun bF => (b1 (fun y => (fun bF => (b1 (fun y => (fun bF => (b1 (fun y => (fun bF => (b1 (fun y => (fun bF => (b1 (fun y => (fun bF => (some (Fl.rt bF))) ({ bF with owed := y } : TableT)) (some (TableT.owed ac)))) ({ bF with missed := y } : TableT)) (some (TableT.missed ac)))) ({ bF with won := y } : TableT)) (some (TableT.won ac)))) ({ bF with closed := y } : TableT)) (some (TableT.closed ac)))) ({ bF with noted := y } : TableT)) (some (TableT.noted ac)))) ({ bF with said := y } : TableT)) (some (TableT.said ac)))) ({ bF with current := y } : TableT)) (some (TableT.current ac)))) ({ bF with left := y } : TableT)) (some (TableT.left ac)))) ({ bF with lying := y } : TableT)) (some (TableT.lying ac)))) (b1 nF (some (TableT.start ac))))
def gV (aj : (List (List (List Int)))) (db : Int) : Option (List Int) := ba (S := Unit) (R := (List Int)) 
  (b1 (fun cQ => (ah (S1 := (List Int)) (b1 (fun xs => cD (fun x2 s1 => (b1 (fun cQ => (some (Fl.nx cQ)))
    (b2 dw (some s1) (some x2)))) xs cQ) (b2 atI (some aj) (some db))) fun s1 => (b1 (fun r => some (Fl.rt r)) (some s1))))
    (b1 aK (some ([] : List Int))))
def Dq (af : (List Int)) (c7 : Int) : Option (List (List Str)) := ba (S := Unit) (R := (List (List Str))) 
  (b1 (fun oQ => (b1 (fun aa => (ah (S1 := (List (List Str))) (b1 (fun xs => cD (fun x2 s1 => (b1 (fun a7 => (b1 (fun a7 => (ah (S1 := (List (List Str))) (a9 (b1 nH (b1 (lcM fun x7 => lcE (some true) (dC (b2 dY (some a7) (some x7)))) (some s1)))
    (b1 (fun x => kU s1 x fun aa => (some (Fl.nx aa))) (some a7))
    (some (Fl.nx s1))) fun s8 => (some (Fl.nx s8))))
    (b2 dw (some a7) (b1 (lcM fun x6 => lcE (some true) (b2 atI (some oQ) (b2 bJ (b2 atI (some af) (b2 cN (b2 cN (some (5 : Int)) (b2 fE (some (7 : Int)) (some x2))) (some x6))) (some (3 : Int))))) (b1 rngM (b2 cN (some (1 : Int)) (b2 bJ (b2 atI (some af) (b2 cN (some (9 : Int)) (b2 fE (some (7 : Int)) (some x2)))) (some (4 : Int)))))))))
    (b3 cM (b2 atI (some s1) (b2 bJ (b2 atI (some af) (b2 cN (some (3 : Int)) (b2 fE (some (7 : Int)) (some x2)))) (b1 b7 (some s1)))) ce (bN (b2 bJ (b2 atI (some af) (b2 cN (some (4 : Int)) (b2 fE (some (7 : Int)) (some x2)))) (some (4 : Int))))))) xs aa) (b1 rngM (b2 cN (some (1 : Int)) (b2 bJ (b2 atI (some af) (some (1 : Int))) (b2 jT (some c7) (some (1 : Int))))))) fun s1 => (ah (S1 := (List (List Str))) (a9 (b2 eqM (b1 b7 (some s1)) (some (1 : Int)))
    (b1 (fun x => kU s1 x fun aa => (some (Fl.nx aa))) (b2 dw (b3 cM (b2 atI (some s1) (some (0 : Int))) ce (bN (b1 jY (some (1 : Int))))) (b1 aK (b2 ar (some ("ma" : Str)) (some ([] : List Str))))))
    (some (Fl.nx s1))) fun s9 => (b1 (fun r => some (Fl.rt r)) (some s9)))))
    (b1 aK (b2 ar (b2 ww (b2 atI (some oQ) (b2 bJ (b2 atI (some af) (some (2 : Int))) (some (3 : Int)))) (b2 cN (some (1 : Int)) (b2 bJ (b2 hW (b2 atI (some af) (some (0 : Int))) (some (3 : Int))) (some (2 : Int))))) (some ([] : List (List Str)))))))
    (b2 atI (b1 aK (b2 ar (b1 aK (b2 ar (some ("a" : Str)) (b2 ar (some ("b" : Str)) (b2 ar (some ("ab" : Str)) (some ([] : List Str)))))) (b2 ar (b1 aK (b2 ar (some ("ka" : Str)) (b2 ar (some ("ki" : Str)) (b2 ar (some ("k" : Str)) (some ([] : List Str)))))) (b2 ar (b1 aK (b2 ar (some ("to" : Str)) (b2 ar (some ("t" : Str)) (b2 ar (some ("ot" : Str)) (some ([] : List Str)))))) (some ([] : List (List Str))))))) (b2 bJ (b2 atI (some af) (some (0 : Int))) (some (3 : Int)))))
end Kj

namespace Kj
open PySem L2
def IA {α : Type} (p : P2 α α) (i : Int) : Option α := atI [p.a, p.b] i
section
variable {H0 : Hp} {ρ : List Slot} {K : PySem.W.Frag} {f fa fb : Bool} {ta tb te : TE} {α : Type}
end
end Kj

set_option synthInstance.maxHeartbeats 400000
set_option synthInstance.maxSize 1000
namespace Kj
open PySem L2
def mB (cH : Int) : Option Unit := jr (S := Unit) 
  (ah (S1 := Unit) (a9 (dC (chM leI leI (some (0 : Int)) (some cH) (some (1 : Int))))
    none
    (some (Fl.nx ()))) fun s1 => (some (Fl.nx ())))
def mE (di : TableT) : Option Unit := jr (S := Unit) 
  (ah (S1 := Unit) (a9 (((some di).map TableT.owed).map Option.isNone)
    none
    (some (Fl.nx ()))) fun s1 => (some (Fl.nx ())))
def jH (aI : DealT) (cH : Int) (ak : Int) : Option Unit := jr (S := Unit) 
  (b1 (fun e9 => (ah (S1 := Unit) (a9 (orM ((some e9).map Option.isNone) (b2 neM (((some e9).bind id).map P3.a) (some cH)))
    none
    (some (Fl.nx ()))) fun s1 => (some (Fl.nx ()))))
    (b2 cY (some aI) (some ak)))
def pr (Cu : (P2 Int Int)) : Option (Option (P2 Int Int)) := ba (S := Unit) (R := (Option (P2 Int Int))) 
  (b1 (fun x1 => (b1 (fun r => some (Fl.rt r)) (a9 (b2 gtI (some x1.b) (some (1 : Int))) ((b2 mk2 (some x1.a) (b2 jT (some x1.b) (some (1 : Int)))).map some) (some (none : (Option (P2 Int Int)))))))
    (some Cu))
def qA (ac : TableT) (cH : Int) (ca : (P4 Int Int Int Int)) : Option (TableT × Unit) := kD (S := TableT) (fun z => z)
  (b1 (fun _ => (b1 (fun _ => (b1 (fun _ => (b1 (fun y => (fun ac => (some (Fl.nx ac))) ({ ac with noted := y } : TableT)) (b2 BW (some (TableT.noted ac)) (b3 mk3 (some cH) (some (TableT.said ac)) (some ca))))) (b2 gp (some (TableT.lying ac)) (some ca)))) (b1 mB (some cH)))) (b1 iB (some ac)))
def rZ (ac : TableT) (ak : Int) (dF : Int) : Option (TableT × Unit) := kD (S := TableT) (fun z => z)
  (b1 (fun _ => (b1 (fun _ => (b1 (fun y => (fun ac => (b1 (fun y => (fun ac => (some (Fl.nx ac))) ({ ac with owed := y } : TableT)) (b1 pr ((some (TableT.owed ac)).bind id)))) ({ ac with lying := y } : TableT)) (b3 tU (some (TableT.lying ac)) (some ak) (some dF)))) (b3 jH (some (TableT.lying ac)) (((some (TableT.owed ac)).bind id).map P2.a) (some ak)))) (b1 mE (some ac)))
def qz (ac : TableT) : Option (TableT × Unit) := kD (S := TableT) (fun z => z)
  (b1 (fun _ => (b1 (fun y => (fun ac => (some (Fl.nx ac))) ({ ac with owed := y } : TableT)) (b1 pr ((some (TableT.owed ac)).bind id)))) (b1 mE (some ac)))
end Kj

namespace Kj
open PySem L2
theorem dL.ins {α : Type} [Enc α] {H : Hp} {l : Addr} (h : H l = some (.lst [])) {rs : List Addr} {xs : List (List α)} (hr : dL H rs xs) : ∀ n : Nat, dL H (rs.take n ++ [l] ++ rs.drop n) (xs.take n ++ [[]] ++ xs.drop n) := by
  unfold dL at hr ⊢
  induction hr with
  | nil => intro n; simp; exact .cons h .nil
  | cons a t ih =>
    intro n
    cases n with
    | zero => simp; exact .cons h (.cons a t)
    | succ n =>
      have := ih n
      simp only [List.take_succ_cons, List.drop_succ_cons, List.cons_append]
      exact .cons a this
def Iu {α γ : Type} (xss : List (List (List α))) (a p : Int) (k : List (List (List α)) → Option γ) : Option γ := (ixN xss.length a).bind fun m => (xss[m]?).bind fun xs => if xs.length < 100000 ∧ 0 ≤ p ∧ p < 1000000 then k (xss.set m (xs.take p.toNat ++ [[]] ++ xs.drop p.toNat)) else none
def Ib {α γ : Type} (xss : List (List (List α))) (a : Int) (k : List (List (List α)) → Option γ) : Option γ := (ixN xss.length a).bind fun m => (xss[m]?).bind fun _ => k (xss.set m [])
def Iv {γ : Type} {α : Type} (xss : List (List (List α))) (m n : Nat) (row zs : List α) (k : List (List (List α)) → Option γ) : Option γ := if row.length + zs.length ≤ 100000 then k (Fb xss m n (row ++ zs)) else none
section
variable {Gw : WK} {H0 : Hp} {ρ ρ' : List Slot} {K : PySem.W.Frag} {f fa fb fc : Bool} {ta tb tc te : TE} {α β γ δ S S1 R : Type} {A : R → Abs} {B : S → List Slot} {t u w : TS} {Ax : α → Abs} {ct : TT} {mc : Option Bool}
end
end Kj

namespace He
open PySem PySem.Spec PyProof.Rows L2
end He

namespace Kj
open PySem L2
def f9 (fs : List (Str × V)) : List (Key × V) := fs.map fun x => ((Sum.inr x.1 : Key), x.2)
theorem vH (x : Str × V) (fs : List (Str × V)) : f9 (x :: fs) = ((Sum.inr x.1 : Key), x.2) :: f9 fs := rfl
theorem yn (fs : List (Str × V)) : (f9 fs).length = fs.length := List.length_map _
theorem vf (k : Str) : ∀ fs : List (Str × V), valV (f9 fs) (Sum.inr k : Key) = fs.lookup k
  | [] => rfl
  | (n, v) :: fs => by
    rw [vH, List.lookup_cons]
    by_cases e : n = k
    · subst e
      rw [valV_pos (p := ((Sum.inr n : Key), v)) rfl, beq_self_eq_true]
    · rw [valV_neg (p := ((Sum.inr n : Key), v)) (fun z => e (Sum.inr.inj z)), show (k == n) = false from beq_eq_false_iff_ne.mpr (Ne.symm e)]
      exact vf k fs
theorem zE (k : Str) (fs : List (Str × V)) : ((f9 fs).any fun kv => decide (kv.1 = (Sum.inr k : Key))) = decide (k ∈ fs.map (·.1)) := by
  induction fs with
  | nil => rfl
  | cons x fs ih =>
    rw [vH, List.any_cons, ih, List.map_cons]
    by_cases e : x.1 = k
    · rw [decide_eq_true (show (Sum.inr x.1 : Key) = Sum.inr k by rw [e]), decide_eq_true (show k ∈ x.1 :: fs.map (·.1) by rw [e]; exact List.mem_cons_self)]; rfl
    · rw [decide_eq_false (fun z : (Sum.inr x.1 : Key) = Sum.inr k => e (Sum.inr.inj z)), Bool.false_or]
      congr 1
      rw [List.mem_cons]
      exact propext ⟨.inr, fun z => z.elim (fun y => absurd y.symm e) id⟩
theorem qP : ∀ (fs gs : List (Str × V)), ((gs ++ fs).map (·.1)).Nodup → mergeK (f9 gs) (f9 fs) = f9 (gs ++ fs)
  | [], gs, _ => by rw [List.append_nil]; rfl
  | (n, v) :: fs, gs, nd => by
    show mergeK (putK (f9 gs) (Sum.inr n) v) (f9 fs) = _
    have hn : n ∉ gs.map (·.1) := by
      rw [List.map_append, List.map_cons, List.nodup_append] at nd
      exact fun z => nd.2.2 n z n List.mem_cons_self rfl
    have e : putK (f9 gs) (Sum.inr n : Key) v = f9 (gs ++ [(n, v)]) := by
      unfold putK
      rw [zE, decide_eq_false hn, if_neg (by simp)]
      unfold f9
      rw [List.map_append]; rfl
    rw [e, qP fs (gs ++ [(n, v)]) (by rw [List.append_assoc]; exact nd), List.append_assoc]
    rfl
theorem FAll.names {H : Hp} : ∀ {fas : List (Str × Abs)} {fs : List (Str × V)}, FAll fas fs H → fs.map (·.1) = fas.map (·.1)
  | _, _, .nil => rfl
  | _, _, .cons _ t => by rw [List.map_cons, List.map_cons, t.names]
def F1 (fas : List (Str × Abs)) : Abs := ⟨fun v H => ∃ a fs, v = .ref a ∧ H a = some (.dK (f9 fs)) ∧ FAll fas fs H, fun v _ _ s ⟨a, fs, e, h, q⟩ => ⟨a, fs, e, s _ _ h, q.mono s⟩⟩
def Il (fas : List (Str × Abs)) : AbsO := ⟨fun _ o H => ∃ fs, o = .dK (f9 fs) ∧ FAll fas fs H, fun _ _ _ _ s ⟨fs, e, q⟩ => ⟨fs, e, q.mono s⟩⟩
def pr2 {α β : Type} (a : α) (b : β) : Option (α × β) := some (a, b)
section
variable {Gw : WK} {C' : WZ} {H0 : Hp} {ρ ρ' : List Slot} {K : PySem.W.Frag} {f fa fb : Bool} {ta tb tc te : TE} {α β γ τ S S1 R : Type} {A : R → Abs} {Bs : S → List Slot} {t u w : TS} {fas : List (Str × Abs)} {B : AbsO}
def DPr (H0 : Hp) (ρ : List Slot) (trs : List (TE × TE)) (f : Bool) (fas : List (Str × Abs)) : Prop :=
  ∀ (σ : St) (H Hr : Hp) (Q : List (V × V) → Hp → Prop), EnvOk H0 σ ρ H Hr → (∀ fs H' Hr', Ext H Hr H' Hr' → FAll fas fs (hp f Hr' H0) → Q (fs.map fun x => (V.str x.1, x.2)) H') → tPairs trs σ H Q
def DPs (H0 : Hp) (ρ : List Slot) (trs : List (TE × TE)) (f : Bool) (O : τ → List (Str × Abs)) (m : Option τ) : Prop := ∀ x, m = some x → DPr H0 ρ trs f (O x)
end
end Kj

namespace Kj
open PySem L2
def opK {γ δ : Type} (kS : Str → γ → Option δ) (kN : Str → Option δ) (r : P2 Str (Option γ)) : Option δ := match r.b with | some c => kS r.a c | none => kN r.a
abbrev Co := List Abs → Str → Option (List (Str × Abs)) → Prop
def HZ (S : Co) (C : Addr) : Sp := fun vs H Q _ => ∃ As z of Hr, S As z of ∧ Same Hr H ∧ AllP As vs Hr ∧ match of with
  | none => ∀ p H' Hr', Ext H Hr H' Hr' → H' p = none → Q (.ref p) (upd H' p (.tup [.str z, .non]))
  | some fas => ∀ p x dx fs H' Hr', Ext H Hr H' Hr' → H' x = none → H' p = none → p ≠ x → FAll fas fs Hr' → Q (.ref p) (upd (upd H' x (.ins C dx fs)) p (.tup [.str z, .ref x]))
def aOP (Hk : Hp) (C : Addr) (z : Str) (of : Option (List (Str × Abs))) : Abs := ⟨fun v G => ∃ p, v = .ref p ∧ Hk p = none ∧ match of with
  | none => G p = some (.tup [.str z, .non])
  | some fas => ∃ x dx fs, G p = some (.tup [.str z, .ref x]) ∧ Hk x = none ∧ p ≠ x ∧ G x = some (.ins C dx fs) ∧ FAll fas fs (rm (rm G p) x), fun v G G' s ⟨p, e, hk, h⟩ => ⟨p, e, hk, by
    cases of with
    | none => exact s _ _ h
    | some fas =>
      obtain ⟨x, dx, fs, h1, h2, h3, h4, h5⟩ := h
      exact ⟨x, dx, fs, s _ _ h1, h2, h3, s _ _ h4, h5.mono (gx x (gx p s))⟩⟩⟩
section
variable {P : Program} {w : World} {K : PySem.W.Frag} {mg : Str → Option Value} {base : Heap}
end
section
variable {Gw : WK} {C' : WZ} {W : WX} {H0 : Hp} {ρ ρ' : List Slot} {K : PySem.W.Frag} {f fa fb : Bool} {ta tb tc te : TE} {α β γ τ S S1 R : Type} {A : R → Abs} {Bs : S → List Slot} {t u w : TS} {fas : List (Str × Abs)} {B : AbsO} {C : Addr} {O : γ → List (Str × Abs)}
def sq1 (A1 : α → Abs) (O : γ → List (Str × Abs)) (F : α → Option (P2 Str (Option γ))) : Co := fun As z o => ∃ a r, As = [A1 a] ∧ F a = some r ∧ z = r.a ∧ o = r.b.map O
end
end Kj

namespace Kj
open PySem L2
structure LtT where
  rows : List (List (List Int))
  past : List (P4 Int (Option Int) Bool Bool)
  spoken : Option (P2 Int Int)
  hands : List (P3 Int Int (P4 Int Int Int Int))
  won : P2 Int Int
  missed : P2 Int Int
  owed : Option (P2 Int Int)
  deriving DecidableEq
abbrev oLt (K : PySem.W.Frag) (t : LtT) : List (Str × Abs) := [("rows", aE K t.rows), ("past", aE K t.past), ("spoken", aE K t.spoken), ("hands", aE K t.hands), ("won", aE K t.won), ("missed", aE K t.missed), ("owed", aE K t.owed)]
abbrev aLt (K : PySem.W.Frag) (t : LtT) : Abs := F1 (oLt K t)
def Cb (aj : (List (List (List Int)))) : Option LtT := ba (S := Unit) (R := LtT) 
  (b1 (fun r => some (Fl.rt r)) ((b2 pr2 (some aj) (b2 pr2 (b1 aK (some ([] : List (P4 Int (Option Int) Bool Bool)))) (b2 pr2 (some (none : (Option (P2 Int Int)))) (b2 pr2 (b1 aK (some ([] : List (P3 Int Int (P4 Int Int Int Int))))) (b2 pr2 (b2 mk2 (some (0 : Int)) (some (0 : Int))) (b2 pr2 (b2 mk2 (some (0 : Int)) (some (0 : Int))) (b2 pr2 (some (none : (Option (P2 Int Int)))) (some ())))))))).map fun (x : (List (List (List Int))) × (List (P4 Int (Option Int) Bool Bool)) × (Option (P2 Int Int)) × (List (P3 Int Int (P4 Int Int Int Int))) × (P2 Int Int) × (P2 Int Int) × (Option (P2 Int Int)) × Unit) => (⟨x.1, x.2.1, x.2.2.1, x.2.2.2.1, x.2.2.2.2.1, x.2.2.2.2.2.1, x.2.2.2.2.2.2.1⟩ : LtT)))
def lP (aa : (List (List Str))) (aH : LtT) : Option (List Int) := ba (S := Unit) (R := (List Int)) 
  (b1 (fun jR => (b1 (fun r => some (Fl.rt r)) (b1 (lcM fun x2 => lcE (b2 jW (some x2) (some jR)) (some x2)) (b1 rngM (b1 b7 (some aa))))))
    (b1 (lcM fun x1 => lcE (some true) ((some x1).map P4.a)) ((some aH).map LtT.past)))
def n9 (aa : (List (List Str))) (aH : LtT) : Option (List Str) := ba (S := Unit) (R := (List Str)) 
  (ah (S1 := Unit) (a9 (((some aH).map LtT.spoken).map Option.isNone)
    (b1 (fun r => some (Fl.rt r)) (b1 aK (some ([] : List Str))))
    (some (Fl.nx ()))) fun s1 => (b1 (fun r => some (Fl.rt r)) (b3 cM (b2 atI (some aa) ((((some aH).map LtT.spoken).bind id).map P2.a)) ce (bN ((((some aH).map LtT.spoken).bind id).map P2.b)))))
def mu (aH : LtT) : Option (Option Int) := ba (S := Unit) (R := (Option Int)) 
  (ah (S1 := Unit) (b1 (fun xs => cD (fun x2 s1 => (ah (S1 := Unit) (a9 (fG (((some aH).map LtT.owed).map Option.isNone) (b2 eqM (b2 gV ((some aH).map LtT.rows) (some x2)) (b1 aK (some ([] : List Int)))))
    (b1 (fun r => some (Fl.rt r)) ((some x2).map some))
    (some (Fl.nx ()))) fun s4 => (some (Fl.nx ())))) xs ()) (b1 rngM (some (2 : Int)))) fun s1 => (b1 (fun r => some (Fl.rt r)) (some (none : (Option Int)))))
def AL (cF : TableT) (aa : (List (List Str))) (aH : LtT) : Option Bool := ba (S := Unit) (R := Bool) 
  (b1 (fun eQ => (ah (S1 := Unit) (a9 (orM (dC (b2 ez (b2 dZ (some eQ) (some (0 : Int))) (b2 atI ((some aH).map LtT.rows) (some (0 : Int))))) (dC (b2 ez (b2 dZ (some eQ) (some (1 : Int))) (b2 atI ((some aH).map LtT.rows) (some (1 : Int))))))
    (b1 (fun r => some (Fl.rt r)) (some false))
    (some (Fl.nx ()))) fun s1 => (b1 (fun sM => (ah (S1 := Unit) (a9 (orM (dC (b2 ez (b1 ju (some cF) ) (some sM))) (dC (b2 ez (b1 gq (some cF) ) (b2 n9 (some aa) (some aH)))))
    (b1 (fun r => some (Fl.rt r)) (some false))
    (some (Fl.nx ()))) fun s2 => (ah (S1 := Unit) (a9 (orM (dC (b2 ez (b1 oh (some cF) ) ((some aH).map LtT.hands))) (dC (b2 ez (b1 jI (some cF) ) ((some aH).map LtT.past))))
    (b1 (fun r => some (Fl.rt r)) (some false))
    (some (Fl.nx ()))) fun s3 => (ah (S1 := Unit) (a9 (orM (dC (b2 ez (b1 qB (some cF) ) ((some aH).map LtT.won))) (dC (b2 ez (b1 pK (some cF) ) ((some aH).map LtT.missed))))
    (b1 (fun r => some (Fl.rt r)) (some false))
    (some (Fl.nx ()))) fun s4 => (ah (S1 := Unit) (a9 (dC (b2 ez (b1 el (some cF) ) (b2 lP (some aa) (some aH))))
    (b1 (fun r => some (Fl.rt r)) (some false))
    (some (Fl.nx ()))) fun s5 => (b1 (fun r => some (Fl.rt r)) (fG (b2 ez (b1 nR (some cF) ) ((some aH).map LtT.owed)) (b2 ez (b1 i8 (some cF) ) (b1 mu (some aH))))))))))
    (a9 (((some aH).map LtT.spoken).map Option.isNone) (some (none : (Option Int))) (((((some aH).map LtT.spoken).bind id).map P2.a).map some)))))
    (b1 mH (some cF) ))
end Kj

namespace Kj
open PySem L2 LamX
def ovl (G G1 H : Hp) : Hp := fun a => match G1 a with | some o => some o | none => match G a with | some _ => none | none => H a
theorem CL {G G1 H : Hp} {a : Addr} {o : HO} (h : G1 a = some o) : ovl G G1 H a = some o := by unfold ovl; rw [h]
theorem rq {G G1 H : Hp} {a : Addr} (h : G1 a = none) (g : G a = none) : ovl G G1 H a = H a := by unfold ovl; rw [h, g]
theorem xX {G G1 H : Hp} {a : Addr} {o : HO} (h : G1 a = none) (g : G a = some o) : ovl G G1 H a = none := by unfold ovl; rw [h, g]
theorem xV {G H : Hp} (s : Same G H) : ovl G G H = H := by
  funext a
  unfold ovl
  cases e : G a with
  | none => rfl
  | some o => exact (s _ _ e).symm
def IK (X : Cx) (params : Arguments) (body : Expr) (scope : Scope) (f c' : Addr) : HO :=
  .ext fun h => ∃ pm ctv : Value, h.get? f = some (PySem.W.kla_obj "<lambda>" (X.env.qual ++ "<lambda>") params body scope (cloFrom X.env.cells scope.names []) pm c' ctv)
structure Grown (T : List (Addr × Str)) (G H G1 : Hp) : Prop where
  tabs : Tabs T G1
  fresh : ∀ a o, G1 a = some o → (∃ u, G a = some u) ∨ H a = none
  dom : ∀ a o, G a = some o → ∃ u, G1 a = some u
  keep : ∀ a o, G a = some o → (∀ ps, o ≠ .tbl ps) → G1 a = some o
theorem Grown.refl {T : List (Addr × Str)} {G H : Hp} (t : Tabs T G) : Grown T G H G := ⟨t, fun a o h => .inl ⟨o, h⟩, fun a o h => ⟨o, h⟩, fun a o h _ => h⟩
theorem Grown.off {T : List (Addr × Str)} {G H G1 : Hp} (g : Grown T G H G1) {a : Addr} (h : G1 a = none) : G a = none := by
  cases e : G a with
  | none => rfl
  | some o => obtain ⟨u, z⟩ := g.dom a o e; rw [h] at z; cases z
def EU (T : List (Addr × Str)) (q : Str) (FO : Addr → Addr → HO) : TE := fun _ H Q => ∃ G, Same G H ∧ Tabs T G ∧
  ∀ (f c' : Addr) (G1 : Hp), Grown T G H G1 → G1 c' = some (CodeO c' q) → G1 f = none → H f = none → Q (.ref f) (upd (ovl G G1 H) f (FO f c'))
section
variable {X : Cx} {pins : List (Addr × Obj)} {σ : St} {H : Hp} {s : Shared}
end
end Kj

namespace Kj
open PySem L2 LamX
theorem Grown.trans {T : List (Addr × Str)} {G H G1 H1 G2 : Hp} (g : Grown T G H G1) (h : Grown T G1 H1 G2) (hn : ∀ a, H1 a = none → H a = none) : Grown T G H G2 := by
  refine ⟨h.tabs, fun a o e => ?_, fun a o e => ?_, fun a o e n => h.keep _ _ (g.keep _ _ e n) n⟩
  · rcases h.fresh a o e with ⟨u, z⟩ | z
    · exact g.fresh a u z
    · exact .inr (hn a z)
  · obtain ⟨u, z⟩ := g.dom a o e
    exact h.dom a u z
structure LD where
  key : Str
  FO : Addr → Addr → HO
  t : TE
def tPL (T : List (Addr × Str)) (q : Str) (Ls : List LD) : List (TE × TE) := Ls.map fun d => (tC (.str d.key), EU T q d.FO)
def xa (q : Str) (G H : Hp) : List LD → List (Addr × Addr) → Prop := Paired fun d x => H x.1 = some (d.FO x.1 x.2) ∧ G x.2 = some (CodeO x.2 q)
theorem xa.at {q : Str} {G H : Hp} : ∀ {Ls : List LD} {fc : List (Addr × Addr)}, xa q G H Ls fc → ∀ {d : LD}, d ∈ Ls → (Ls.map LD.key).Nodup → ∃ f c', (((Ls.zip fc).map fun x => (x.1.key, V.ref x.2.1)).lookup d.key = some (V.ref f)) ∧ H f = some (d.FO f c') ∧ G c' = some (CodeO c' q)
  | _, _, .nil, d, h, _ => by cases h
  | e :: Ls, x :: fc, .cons h t, d, hd, nd => by
    rw [List.map_cons, List.nodup_cons] at nd
    rw [List.zip_cons_cons, List.map_cons, List.lookup_cons]
    rcases List.mem_cons.mp hd with rfl | hd
    · rw [beq_self_eq_true]
      exact ⟨x.1, x.2, rfl, h.1, h.2⟩
    · have ne : d.key ≠ e.key := fun z => nd.1 (by rw [← z]; exact List.mem_map.mpr ⟨d, hd, rfl⟩)
      rw [show (d.key == e.key) = false from beq_eq_false_iff_ne.mpr ne]
      exact xa.at t hd nd.2
theorem xa.keys {q : Str} {G H : Hp} : ∀ {Ls : List LD} {fc : List (Addr × Addr)}, xa q G H Ls fc → ((Ls.zip fc).map fun x => (x.1.key, V.ref x.2.1)).map (·.1) = Ls.map LD.key ∧ (Ls.zip fc).length = Ls.length
  | _, _, .nil => ⟨rfl, rfl⟩
  | e :: Ls, x :: fc, .cons h t => by
    obtain ⟨a, b⟩ := xa.keys t
    exact ⟨by rw [List.zip_cons_cons, List.map_cons, List.map_cons, a]; rfl, by rw [List.zip_cons_cons, List.length_cons, b]; rfl⟩
def EV (q : Str) (i : Nat) : List LD → TE
  | [] => fun _ _ _ => False
  | d :: Ls => fun σ H Q => (∃ f c', σ[i]? = some (some (.ref f)) ∧ H f = some (d.FO f c') ∧ H c' = some (CodeO c' q) ∧ d.t σ H Q) ∨ EV q i Ls σ H Q
inductive OutT where
  | ret (fas : List (Str × Abs)) (R : Abs)
  | exc (X : XA)
def F4 (C : Addr) (T : List (Addr × Str)) (p : Addr) (H Hr G : Hp) (fas' : List (Str × Abs)) (R : Abs) (Q : VK) : Prop := ∀ v H' Hr' G' dx' fs', Grown T G H G' → Same G' H' → (∀ a o, G' a = some o → Hr' a = none) → G' p = none →
  Ext (rm (ovl G G' H) p) Hr (rm H' p) Hr' → H' p = some (.ins C dx' fs') → FAll fas' fs' Hr' → R.p v Hr' → Q v H'
def F5 (T : List (Addr × Str)) (H G : Hp) (X : XA) (E : XK) : Prop := ∀ cls d H' G', Grown T G H G' → Same (ovl G G' H) H' → Same G' H' → X cls d H' → E cls d H'
structure TArg (C : Addr) (T : List (Addr × Str)) (p dx : Addr) (fs : List (Str × V)) (fas : List (Str × Abs)) (H Hr G : Hp) : Prop where
  hp : H p = some (.ins C dx fs)
  hf : FAll fas fs Hr
  sG : Same G H
  tG : Tabs T G
  dG : ∀ a o, G a = some o → Hr a = none
  np : G p = none
  sr : Same Hr (rm H p)
def HU (C : Addr) (T : List (Addr × Str)) (S : List (Str × Abs) → List Abs → OutT → Prop) : Sp := fun vs H Q E => ∃ p dx fs fas As O rest Hr G, vs = .ref p :: rest ∧ TArg C T p dx fs fas H Hr G ∧ S fas As O ∧ AllP As rest Hr ∧ match O with
  | .ret fas' R => F4 C T p H Hr G fas' R Q
  | .exc X => F5 T H G X E
def emp : Hp := fun _ => none
section
variable {C : Addr} {T : List (Addr × Str)} {p dx : Addr} {fs : List (Str × V)} {fas : List (Str × Abs)} {H Hr G Gn Hn : Hp}
theorem TArg.off (t : TArg C T p dx fs fas H Hr G) (g : Grown T G H Gn) {a : Addr} {o : HO} (h : Hr a = some o) : Gn a = none ∧ G a = none := by
  have hg : G a = none := by
    cases e : G a with
    | none => rfl
    | some u => rw [t.dG a u e] at h; cases h
  refine ⟨?_, hg⟩
  cases e : Gn a with
  | none => rfl
  | some u =>
    rcases g.fresh a u e with ⟨u', z⟩ | z
    · rw [hg] at z; cases z
    · rw [(k8 (t.sr _ _ h)).1] at z; cases z
theorem TArg.sub (t : TArg C T p dx fs fas H Hr G) (g : Grown T G H Gn) (sn : Same (ovl G Gn H) Hn) : Same Hr Hn := fun a o h => by
  obtain ⟨h1, h2⟩ := t.off g h
  exact sn _ _ (by rw [rq h1 h2]; exact (k8 (t.sr _ _ h)).1)
variable {K : PySem.W.Frag} {γ : Type} {O : γ → List (Str × Abs)} {c : γ}
end
end Kj

namespace Kj
open PySem L2 LamX
def zJ (T : Tb) : Abs := ⟨fun _ G => Tabs T G, fun _ _ _ s t => t.ext s⟩
def ID (Z : Hp) : Abs := ⟨fun _ G => Same Z G, fun _ _ _ s t => t.trans s⟩
structure GrownW (T : Tb) (G H G1 : Hp) : Prop where
  tabs : Tabs T G1
  fresh : ∀ a o, G1 a = some o → (∃ u, G a = some u) ∨ H a = none
theorem Grown.weak {T : Tb} {G H G1 : Hp} (g : Grown T G H G1) : GrownW T G H G1 := ⟨g.tabs, g.fresh⟩
theorem GrownW.off {T : Tb} {G H G1 : Hp} (g : GrownW T G H G1) {a : Addr} {o : HO} (h : H a = some o) (n : G a = none) : G1 a = none := by
  cases e : G1 a with
  | none => rfl
  | some u =>
    rcases g.fresh a u e with ⟨w, z⟩ | z
    · rw [n] at z; cases z
    · rw [h] at z; cases z
theorem xW {T : Tb} {G H G1 : Hp} (g : GrownW T G H G1) {a : Addr} {o : HO} (h : H a = some o) (n : G a = none) : ovl G G1 H a = some o := by rw [rq (g.off h n) n]; exact h
def zL (C : Addr) (T : Tb) (p : Addr) (H Hr G : Hp) (fas' : List (Str × Abs)) (R : Abs) (Q : VK) : Prop := ∀ v H' Hr' G' dx' fs', GrownW T G H G' → Same G' H' → (∀ a o, G' a = some o → Hr' a = none) → G' p = none →
  Ext (rm (ovl G G' H) p) Hr (rm H' p) Hr' → H' p = some (.ins C dx' fs') → FAll fas' fs' Hr' → R.p v Hr' → Q v H'
def zM (T : Tb) (H G : Hp) (X : XA) (E : XK) : Prop := ∀ cls d H' G', GrownW T G H G' → Same (ovl G G' H) H' → Same G' H' → X cls d H' → E cls d H'
theorem zL.up {C : Addr} {T : Tb} {p : Addr} {H Hr G : Hp} {fas' : List (Str × Abs)} {R : Abs} {Q : VK} (h : zL C T p H Hr G fas' R Q) : F4 C T p H Hr G fas' R Q := fun v H' Hr' G' dx' fs' g => h v H' Hr' G' dx' fs' g.weak
theorem zM.up {T : Tb} {H G : Hp} {X : XA} {E : XK} (h : zM T H G X E) : F5 T H G X E := fun cls d H' G' g => h cls d H' G' g.weak
def Gf (C : Addr) (T : Tb) (S : List (Str × Abs) → List Abs → OutT → Prop) : Sp := fun vs H Q E => ∃ p dx fs fas As O rest Hr G, vs = .ref p :: rest ∧ TArg C T p dx fs fas H Hr G ∧ S fas As O ∧ AllP As rest Hr ∧ match O with
  | .ret fas' R => zL C T p H Hr G fas' R Q
  | .exc X => zM T H G X E
def HX (C : Addr) (T : Tb) (S : List (Str × Abs) → List Abs → List (Str × Abs) → Abs → Prop) : Sp := Gf C T fun fas As O => ∃ fas' R, O = .ret fas' R ∧ S fas As fas' R
def GB (K : PySem.W.Frag) {γ : Type} (O : γ → List (Str × Abs)) : Rs γ → OutT
  | .ok c => .ret (O c) (aE K ())
  | .ex e => .exc (xP K e)
def Ic (K : PySem.W.Frag) {γ α : Type} (O : γ → List (Str × Abs)) (A : α → Abs) (F : γ → α → Option (Rs γ)) : List (Str × Abs) → List Abs → OutT → Prop := fun fas As o => ∃ c a r, fas = O c ∧ As = [A a] ∧ F c a = some r ∧ o = GB K O r
section
variable {H0 H Hr : Hp} {σ : St} {ρ : List Slot} {T : Tb} {it : Nat}
end
section
variable {C' : WZ} {Gw : WK} {W : WX} {H0 : Hp} {ρ ρ' : List Slot} {K : PySem.W.Frag} {f fa fb : Bool} {ta tb te : TE} {α β γ η S S1 R : Type} {A : R → Abs} {Bs : S → List Slot} {t u w : TS} {C : Addr} {T : Tb} {Pa : Addr → Prop} {O : γ → List (Str × Abs)} {Ar : η → Abs} {i it : Nat} {c : γ}
def okU (m : Option (Rs γ)) : Option (γ × Unit) := m.bind fun r => match r with | .ok c => some (c, ()) | .ex _ => none
def GS (xo : Addr) (Z : Hp) (C : Addr) (T : Tb) (fas : List (Str × Abs)) (R : Abs) : Abs := ⟨fun v G => ∃ GT : Hp, Same GT G ∧ Tabs T GT ∧ GT xo = none ∧ (∀ a o, GT a = some o → Z a = none) ∧ R.p v (mns (rm G xo) GT) ∧ ∃ dx fs, G xo = some (.ins C dx fs) ∧ FAll fas fs (mns (rm G xo) GT),
  fun v G G' s ⟨GT, h1, h2, h3, h4, h5, dx, fs, h6, h7⟩ => ⟨GT, h1.trans s, h2, h3, h4, R.mono _ _ _ (dI _ (gx xo s)) h5, dx, fs, s _ _ h6, h7.mono (dI _ (gx xo s))⟩⟩
end
section
variable {P : Program} {w : World} {K : PySem.W.Frag} {mg : Str → Option Value} {base : Heap}
def H7 (K : PySem.W.Frag) (T : Tb) : Sp := fun vs H Q _ => ∃ (a : Addr) (ns : List Int), vs = [.ref a] ∧ SqL K H a (ns.map V.int) ∧ ns.length ≤ 63 ∧ (∀ p ∈ T, H p.1 = some (.tbl #[])) ∧ ∀ H', Q (.bl true) H'
end
end Kj

namespace Kj
open PySem L2 LamX
inductive It where
  | i (z : Int)
  | s (w : P4 Int Int Int Int)
  deriving DecidableEq
def It.enc : It → PyData
  | .i z => .int z
  | .s w => en w
instance : Enc It := ⟨It.enc, fun x => by cases x <;> simp [It.enc, PyData.plain, Enc.plain], 1, fun x => by
  cases x with
  | i z => simp [It.enc, PyData.depth]
  | s w => exact Enc.depth w, fun x y => by
  cases x with
  | i a => cases y with
    | i b => simp [It.enc, PyData.eqv]
    | s w => show PyData.eqv (.int a) (.tuple _) = true ↔ _; simp [PyData.eqv]
  | s v => cases y with
    | i b => show PyData.eqv (.tuple _) (.int b) = true ↔ _; simp [PyData.eqv]
    | s w => show PyData.eqv (Enc.enc v) (Enc.enc w) = true ↔ _; rw [Enc.eqv]; simp⟩
structure Dd where
  w : Str
  n : Str
  xs : List It
  deriving DecidableEq
instance : Enc Dd := ⟨fun d => .tuple (.str d.w :: .str d.n :: d.xs.map en), fun d => by simp only [PyData.plain, PyData.plainAll, Bool.true_and]; exact iO d.xs, 2, fun d => by
  have := jL d.xs
  have h : Enc.dep It = 1 := rfl
  simp only [PyData.depth, PyData.depthAll]; omega, fun x y => by
  cases x; cases y
  simp [PyData.eqv, PyData.eqvAll, mI]⟩
instance : EncN Dd := ⟨fun x => ⟨by show PyData.eqv .none (.tuple _) = false; simp [PyData.eqv], by show PyData.eqv (.tuple _) .none = false; simp [PyData.eqv], rfl⟩⟩
def It.int? : It → Option Int | .i z => some z | .s _ => none
def It.sw? : It → Option (P4 Int Int Int Int) | .i _ => none | .s w => some w
def Dd.int (k : Nat) (d : Dd) : Option Int := (d.xs[k]?).bind It.int?
def Dd.sw (k : Nat) (d : Dd) : Option (P4 Int Int Int Int) := (d.xs[k]?).bind It.sw?
def ddI (z : Int) (xs : List It) : Option (List It) := some (.i z :: xs)
def ddS (w : P4 Int Int Int Int) (xs : List It) : Option (List It) := some (.s w :: xs)
def qp (w n : Str) (xs : List It) : Option Dd := if xs.length ≤ 50 then some ⟨w, n, xs⟩ else none
section
variable {H0 : Hp} {ρ : List Slot} {K : PySem.W.Frag} {f fa fb fc : Bool} {ta tb tc te : TE} {t : TA}
def DIs (K : PySem.W.Frag) (H0 : Hp) (ρ : List Slot) (t : TA) (f : Bool) (m : Option (List It)) : Prop := ∀ xs, m = some xs → DAd H0 K ρ t f (xs.map en)
end
section
variable {γ : Type}
def orX (c : Option (γ × Unit)) (x : Option (Rs Unit)) : Option (Rs γ) := match x with | some (.ex e) => some (.ex e) | _ => c.map fun r => .ok r.1
def sT4 (K : PySem.W.Frag) {α β δ : Type} (O : γ → List (Str × Abs)) (A1 : α → Abs) (B1 : β → Abs) (D1 : δ → Abs) (F : γ → α → β → δ → Option (Rs γ)) : List (Str × Abs) → List Abs → OutI → Prop := fun fas As o => ∃ c a b d r, fas = O c ∧ As = [A1 a, B1 b, D1 d] ∧ F c a b d = some r ∧ o = l8 K O r
def sT5 (K : PySem.W.Frag) {α β δ ε : Type} (O : γ → List (Str × Abs)) (A1 : α → Abs) (B1 : β → Abs) (D1 : δ → Abs) (E1 : ε → Abs) (F : γ → α → β → δ → ε → Option (Rs γ)) : List (Str × Abs) → List Abs → OutI → Prop := fun fas As o => ∃ c a b d e r, fas = O c ∧ As = [A1 a, B1 b, D1 d, E1 e] ∧ F c a b d e = some r ∧ o = l8 K O r
end
section
variable {C : Addr} {H0 : Hp} {ρ : List Slot} {K : PySem.W.Frag} {W : WX} {t : TS} {γ S : Type} {B : S → List Slot} {O : γ → List (Str × Abs)}
end
section
variable {C : Addr} {T : Tb} {p dx : Addr} {fs : List (Str × V)} {H Hr G : Hp} {K : PySem.W.Frag} {γ : Type} {O : γ → List (Str × Abs)} {c : γ} {d : Dd}
end
section
variable {Gw : WK} {H0 : Hp} {ρ : List Slot} {f : Bool} {te to : TE} {α S R : Type} {A : R → Abs} {Ax : α → Abs} {Bs : S → List Slot} {u : TS}
end
def GJ (b : List Stmt) : List Expr := match b with | (.Assign _ (.Dict _ vs _) _) :: _ => vs | _ => []
def Iq (e : Expr) : Arguments := match e with | .Lambda p _ _ _ => p | _ => ⟨[], [], none, [], [], none, []⟩
def Ir (e : Expr) : Expr := match e with | .Lambda _ b _ _ => b | e => e
def Ip (d : Scope) (e : Expr) : Scope := match e with | .Lambda _ _ s _ => s | _ => d
end Kj

namespace Kj
open PySem L2
def gO (di : TableT) : Option (Rs Unit) := eY (S := Unit) 
  (ah (S1 := Unit) (a9 ((b1 i8 (some di) ).map Option.isSome)
    (some (Fl.ex ⟨"Over", []⟩))
    (some (Fl.nx ()))) fun s1 => (some (Fl.nx ())))
def iA (di : TableT) : Option (Rs Unit) := eY (S := Unit) 
  (ah (S1 := Unit) (a9 (((some di).map TableT.current).map Option.isSome)
    (some (Fl.ex ⟨"Reading", []⟩))
    (some (Fl.nx ()))) fun s1 => (some (Fl.nx ())))
def hJ (di : TableT) : Option (Rs Unit) := eY (S := Unit) 
  (ah (S1 := Unit) (a9 (((some di).map TableT.current).map Option.isNone)
    (some (Fl.ex ⟨"NotDue", []⟩))
    (some (Fl.nx ()))) fun s1 => (some (Fl.nx ())))
def kL (di : TableT) : Option (Rs Unit) := eY (S := Unit) 
  (ah (S1 := Unit) (a9 (((some di).map TableT.owed).map Option.isNone)
    (some (Fl.ex ⟨"NotDue", []⟩))
    (some (Fl.nx ()))) fun s1 => (some (Fl.nx ())))
def kI (cH : Int) : Option (Rs Unit) := eY (S := Unit) 
  (ah (S1 := Unit) (a9 (dC (chM leI leI (some (0 : Int)) (some cH) (some (1 : Int))))
    (some (Fl.ex ⟨"NoSide", []⟩))
    (some (Fl.nx ()))) fun s1 => (some (Fl.nx ())))
def i7 (aI : DealT) (cH : Int) (ak : Int) : Option (Rs Unit) := eY (S := Unit) 
  (bX (fun e9 => (ah (S1 := Unit) (a9 (orM ((some e9).map Option.isNone) (b2 neM (((some e9).bind id).map P3.a) (some cH)))
    (some (Fl.ex ⟨"NoCard", []⟩))
    (some (Fl.nx ()))) fun s1 => (some (Fl.nx ()))))
    (b2 i9 (some aI) (some ak)))
def iF (di : TableT) : Option (Rs (List Str)) := ig (S := Unit) (R := (List Str)) 
  (bX (fun _ => (b1 (fun r => some (Fl.rt r)) (b2 bM (b1 bA ((some di).map TableT.lying) ) (((some di).map TableT.current).bind id)))) (b1 hJ (some di)))
def r7 (ac : TableT) (cH : Int) (ak : Int) (dF : Int) (gu : Int) : Option (TableT × Unit) := kD (S := TableT) (fun z => z)
  (b1 (fun _ => (b1 (fun _ => (b1 (fun _ => (b1 (fun _ => (b1 (fun y => (fun ac => (some (Fl.nx ac))) ({ ac with lying := y } : TableT)) (b4 r_ (some (TableT.lying ac)) (some ak) (some dF) (some gu)))) (b3 jH (some (TableT.lying ac)) (some cH) (some ak)))) (b1 mB (some cH)))) (b1 js (some ac)))) (b1 ik (some ac)))
def pE (ac : TableT) (ak : Int) : Option (TableT × Unit) := kD (S := TableT) (fun z => z)
  (b1 (fun _ => (b1 (fun _ => (b1 (fun _ => (ah (S1 := Unit) (a9 (b2 Fq (some ak) (some (TableT.left ac)))
    none
    (some (Fl.nx ()))) fun s1 => (b1 (fun y => (fun ac => (b1 (fun y => (fun ac => (some (Fl.nx ac))) ({ ac with closed := y } : TableT)) (b1 oU (b1 (lcM fun x2 => lcE (b2 neM ((some x2).map P4.a) (some ak)) (some x2)) (b1 ji (some (TableT.closed ac))))))) ({ ac with left := y } : TableT)) (b1 oU (b1 vo (b2 EZ (some (TableT.left ac)) (some ak))))))) (b2 cA (b1 bA (some (TableT.lying ac)) ) (some ak)))) (b1 js (some ac)))) (b1 ik (some ac)))
def op (ac : TableT) : Option (Rs Unit) := eY (S := Unit)
  (bX (fun _ => none) (b1 hJ (some ac)))
def pJ (ac : TableT) : Option (Rs TableT) := orX (mG ac) (op ac)
def ol (ac : TableT) (ak : Int) : Option (Rs Unit) := eY (S := Unit)
  (bX (fun _ => (ah (S1 := Unit) (a9 (((some ac).map TableT.owed).map Option.isSome)
    (some (Fl.ex ⟨"GiftDue", []⟩))
    (some (Fl.nx ()))) fun s1 => (bX (fun _ => (bX (fun _ => (ah (S1 := Unit) (a9 (b2 vA (some ak) ((some ac).map TableT.left))
    (some (Fl.ex ⟨"ReadAlready", []⟩))
    (some (Fl.nx ()))) fun s2 => none)) (b2 eH (b1 bA ((some ac).map TableT.lying) ) (some ak)))) (b1 iA (some ac))))) (b1 gO (some ac)))
def pH (ac : TableT) (ak : Int) : Option (Rs TableT) := orX (r5 ac ak) (ol ac ak)
def pG (ac : TableT) : Option (Rs Unit) := eY (S := Unit)
  (ah (S1 := Unit) (bX (fun c => a9 (some c)
    (some (Fl.ex ⟨"AllSaid", []⟩))
    (some (Fl.nx ()))) (rsM (fun mz => (b2 eqM ((some ac).map TableT.said) (b1 b7 mz))) (b1 iF (some ac)))) fun s1 => none)
def qC (ac : TableT) : Option (Rs TableT) := orX (tT ac) (pG ac)
def nC (ac : TableT) (cH : Int) (ca : (P4 Int Int Int Int)) : Option (Rs Unit) := eY (S := Unit)
  (bX (fun _ => (bX (fun _ => (bX (fun _ => none) (b2 gy ((some ac).map TableT.lying) (some ca)))) (b1 kI (some cH)))) (b1 hJ (some ac)))
def oi (ac : TableT) (cH : Int) (ca : (P4 Int Int Int Int)) : Option (Rs TableT) := orX (qA ac cH ca) (nC ac cH ca)
def nE (ac : TableT) : Option (Rs Unit) := eY (S := Unit)
  (ah (S1 := Unit) (bX (fun c => a9 (some c)
    (some (Fl.ex ⟨"TooEarly", []⟩))
    (some (Fl.nx ()))) (rsM (fun mz => (b2 ltI ((some ac).map TableT.said) (b1 b7 mz))) (b1 iF (some ac)))) fun s1 => none)
def oq (ac : TableT) : Option (Rs TableT) := orX (qD ac) (nE ac)
def oj (ac : TableT) (ak : Int) (dF : Int) : Option (Rs Unit) := eY (S := Unit)
  (bX (fun _ => (bX (fun _ => (bX (fun _ => none) (b3 qE ((some ac).map TableT.lying) (some ak) (some dF)))) (b3 i7 ((some ac).map TableT.lying) ((((some ac).map TableT.owed).bind id).map P2.a) (some ak)))) (b1 kL (some ac)))
def pF (ac : TableT) (ak : Int) (dF : Int) : Option (Rs TableT) := orX (rZ ac ak dF) (oj ac ak dF)
def nB (ac : TableT) : Option (Rs Unit) := eY (S := Unit)
  (bX (fun _ => none) (b1 kL (some ac)))
def og (ac : TableT) : Option (Rs TableT) := orX (qz ac) (nB ac)
def om (ac : TableT) (cH : Int) (ak : Int) (dF : Int) (gu : Int) : Option (Rs Unit) := eY (S := Unit)
  (bX (fun _ => (bX (fun _ => (bX (fun _ => (bX (fun _ => (bX (fun _ => none) (b4 pN ((some ac).map TableT.lying) (some ak) (some dF) (some gu)))) (b3 i7 ((some ac).map TableT.lying) (some cH) (some ak)))) (b1 kI (some cH)))) (b1 iA (some ac)))) (b1 gO (some ac)))
def pI (ac : TableT) (cH : Int) (ak : Int) (dF : Int) (gu : Int) : Option (Rs TableT) := orX (r7 ac cH ak dF gu) (om ac cH ak dF gu)
def mF (ac : TableT) (ak : Int) : Option (Rs Unit) := eY (S := Unit)
  (bX (fun _ => (bX (fun _ => (bX (fun _ => (ah (S1 := Unit) (a9 (b2 Fq (some ak) ((some ac).map TableT.left))
    (some (Fl.ex ⟨"NotRead", []⟩))
    (some (Fl.nx ()))) fun s1 => none)) (b2 eH (b1 bA ((some ac).map TableT.lying) ) (some ak)))) (b1 iA (some ac)))) (b1 gO (some ac)))
def nD (ac : TableT) (ak : Int) : Option (Rs TableT) := orX (pE ac ak) (mF ac ak)
def ny (aj : (List (List (List Int)))) (bG : Int) : Option (List (List (List Int))) := ba (S := Unit) (R := (List (List (List Int)))) 
  (b1 (fun r => some (Fl.rt r)) (b1 (lcM fun x1 => lcE (some true) (b1 (lcM fun x2 => lcE (some true) (b1 (lcM fun x3 => lcE (b2 neM (some x3) (some bG)) (some x3)) (some x2))) (some x1))) (some aj)))
def py (aj : (List (List (List Int)))) (db : Int) (bH : Int) (fU : Int) (bG : Int) : Option (List (List (List Int))) := ba (S := Unit) (R := (List (List (List Int)))) 
  (b1 (fun aj => (b4 (fun a b p v => ED aj a b fun m n row => C5 aj m n row p v fun aj => (b1 (fun r => some (Fl.rt r)) (some aj))) (some db) (some bH) (some fU) (some bG)))
    (b2 (fun a b => some [a, b]) (b1 iM (b2 atI (some aj) (some (0 : Int)))) (b1 iM (b2 atI (some aj) (some (1 : Int))))))
def px (iT : (P2 Int Int)) (co : Int) : Option (P2 Int Int) := ba (S := Unit) (R := (P2 Int Int)) 
  (b1 (fun r => some (Fl.rt r)) (b2 mk2 (b2 jT (b2 cN ((some iT).map P2.a) (some (1 : Int))) (some co)) (b2 cN ((some iT).map P2.b) (some co))))
def rW (aH : LtT) : Option LtT := ba (S := Unit) (R := LtT) 
  (b1 (fun aH => (b1 (fun bG => (b1 (fun dy => (b1 (fun iI => (b1 (fun kX => (ah (S1 := LtT × (Option Int)) (a9 (b2 geI (some dy) (some (0 : Int)))
    (b1 (fun rb => (b1 (fun kX => (b1 (fun y => (fun aH => (some (Fl.nx (aH, kX)))) ({ aH with won := y } : LtT)) (b2 px (some (LtT.won aH)) ((some kX).bind id))))
    ((b2 atI (b2 dw (some rb) (b1 aK (b2 ar (some dy) (some ([] : List Int))))) (some (0 : Int))).map some)))
    (b1 (lcM fun x5 => lcE (b2 inM (some bG) (b2 lj (some (LtT.rows aH)) ((some x5).map P3.c))) ((some x5).map P3.a)) (some (LtT.hands aH))))
    (some (Fl.nx (aH, kX)))) fun s4 => (b1 (fun iJ => (ah (S1 := LtT) (b1 (fun xs => cD (fun x8 s7 => (ah (S1 := LtT) (a9 (b2 atI (some iI) (some x8))
    (b1 (fun y => (fun aH => (some (Fl.nx aH))) ({ s7 with missed := y } : LtT)) (b2 px (some (LtT.missed s7)) (some x8)))
    (some (Fl.nx s7))) fun s10 => (some (Fl.nx s10)))) xs s4.1) (b1 rngM (some (2 : Int)))) fun s7 => (b1 (fun y => (fun aH => (b1 (fun co => (b1 (fun nK => (b1 (fun y => (fun aH => (b1 (fun y => (fun aH => (b1 (fun y => (fun aH => (b1 (fun y => (fun aH => (b1 (fun r => some (Fl.rt r)) (some aH))) ({ aH with hands := y } : LtT)) (b1 aK (some ([] : List (P3 Int Int (P4 Int Int Int Int))))))) ({ aH with spoken := y } : LtT)) (some (none : (Option (P2 Int Int)))))) ({ aH with past := y } : LtT)) (b2 dw (some (LtT.past aH)) (b1 aK (b2 ar (b4 mk4 (some bG) (some s4.2) (b2 atI (some iI) (some (0 : Int))) (b2 atI (some iI) (some (1 : Int)))) (some ([] : List (P4 Int (Option Int) Bool Bool)))))))) ({ aH with owed := y } : LtT)) (a9 (b2 gtI (some nK) (some (0 : Int))) ((b2 mk2 (some co) (some nK)).map some) (some (none : (Option (P2 Int Int)))))))
    (b2 ya (b1 w7 (b2 jT (b2 atI (some iJ) (some (0 : Int))) (b2 atI (some iJ) (some (1 : Int))))) (b1 b7 (b2 gV (some (LtT.rows aH)) (some co))))))
    (a9 (b2 gtI (b2 atI (some iJ) (some (0 : Int))) (b2 atI (some iJ) (some (1 : Int)))) (some (0 : Int)) (some (1 : Int))))) ({ s7 with rows := y } : LtT)) (b2 ny (some (LtT.rows s7)) (some bG)))))
    (b1 (lcM fun x6 => lcE (some true) (b2 cN (b1 qq (fG (b2 eqM (some s4.2) ((some x6).map some)) (b2 neM (some dy) (some x6)))) (b1 qq (b2 atI (some iI) (b2 jT (some (1 : Int)) (some x6)))))) (b1 rngM (some (2 : Int)))))))
    (some (none : (Option Int)))))
    (b1 (lcM fun x1 => lcE (some true) (b1 BN (b1 (lcM fun x2 => lcE (some true) (fG (b2 eqM ((some x2).map P3.a) (some x1)) (b2 neM (((some x2).map P3.c).map P4.a) (some dy)))) (some (LtT.hands aH))))) (b1 rngM (some (2 : Int))))))
    (b2 eW (some (LtT.rows aH)) (some bG))))
    (((some (LtT.spoken aH)).bind id).map P2.a))) (some aH))
def Ca (t : TableT) (d : Dd) : Option (Rs TableT) := if d.w = "read" then (b1 (pH t) (Dd.int 0 d)) else if d.w = "say" then (qC t) else if d.w = "touch" then (b2 (oi t) (Dd.int 0 d) (Dd.sw 1 d)) else if d.w = "close" then (oq t) else if d.w = "hush" then (pJ t) else if d.w = "send" then (b2 (pF t) (Dd.int 0 d) (Dd.int 1 d)) else if d.w = "waive" then (og t) else if d.w = "move" then (b4 (pI t) (Dd.int 0 d) (Dd.int 1 d) (Dd.int 2 d) (Dd.int 3 d)) else if d.w = "strike" then (b1 (nD t) (Dd.int 0 d)) else none
def AM (aH : LtT) (bb : Dd) : Option LtT := ba (S := Unit) (R := LtT) 
  (b1 (fun aH => (ah (S1 := LtT) (a9 (b2 eqM ((some bb).map Dd.w) (some ("read" : Str)))
    (b1 (fun y => (fun aH => (some (Fl.nx aH))) ({ aH with spoken := y } : LtT)) ((b2 mk2 ((some bb).bind (Dd.int 0)) (some (0 : Int))).map some))
    (some (Fl.nx aH))) fun s1 => (ah (S1 := LtT) (a9 (b2 eqM ((some bb).map Dd.w) (some ("say" : Str)))
    (b1 (fun y => (fun aH => (some (Fl.nx aH))) ({ s1 with spoken := y } : LtT)) ((b2 mk2 (((some (LtT.spoken s1)).bind id).map P2.a) (b2 cN (((some (LtT.spoken s1)).bind id).map P2.b) (some (1 : Int)))).map some))
    (some (Fl.nx s1))) fun s2 => (ah (S1 := LtT) (a9 (b2 eqM ((some bb).map Dd.w) (some ("touch" : Str)))
    (b1 (fun y => (fun aH => (some (Fl.nx aH))) ({ s2 with hands := y } : LtT)) (b2 dw (some (LtT.hands s2)) (b1 aK (b2 ar (b3 mk3 ((some bb).bind (Dd.int 0)) (((some (LtT.spoken s2)).bind id).map P2.b) ((some bb).bind (Dd.sw 1))) (some ([] : List (P3 Int Int (P4 Int Int Int Int))))))))
    (some (Fl.nx s2))) fun s3 => (ah (S1 := Unit) (a9 (b2 eqM ((some bb).map Dd.w) (some ("close" : Str)))
    (b1 (fun r => some (Fl.rt r)) (b1 rW (some s3)))
    (some (Fl.nx ()))) fun s4 => (ah (S1 := LtT) (a9 (b2 eqM ((some bb).map Dd.w) (some ("hush" : Str)))
    (b1 (fun y => (fun aH => (b1 (fun y => (fun aH => (some (Fl.nx aH))) ({ aH with hands := y } : LtT)) (b1 aK (some ([] : List (P3 Int Int (P4 Int Int Int Int))))))) ({ s3 with spoken := y } : LtT)) (some (none : (Option (P2 Int Int)))))
    (some (Fl.nx s3))) fun s5 => (ah (S1 := LtT) (a9 (b2 eqM ((some bb).map Dd.w) (some ("send" : Str)))
    (b1 (fun db => (b1 (fun fU => (b1 (fun y => (fun aH => (some (Fl.nx aH))) ({ s5 with rows := y } : LtT)) (b5 py (b2 ny (some (LtT.rows s5)) ((some bb).bind (Dd.int 0))) (some db) ((some bb).bind (Dd.int 1)) (some fU) ((some bb).bind (Dd.int 0)))))
    (b1 b7 (b2 atI (b2 atI (some (LtT.rows s5)) (some db)) ((some bb).bind (Dd.int 1))))))
    (b2 jT (some (1 : Int)) (((some (LtT.owed s5)).bind id).map P2.a)))
    (some (Fl.nx s5))) fun s6 => (ah (S1 := LtT) (a9 (b2 inM ((some bb).map Dd.w) (b1 aK (b2 ar (some ("send" : Str)) (b2 ar (some ("waive" : Str)) (some ([] : List Str))))))
    (b1 (fun y => (fun aH => (some (Fl.nx aH))) ({ s6 with owed := y } : LtT)) (a9 (b2 gtI (((some (LtT.owed s6)).bind id).map P2.b) (some (1 : Int))) ((b2 mk2 (((some (LtT.owed s6)).bind id).map P2.a) (b2 jT (((some (LtT.owed s6)).bind id).map P2.b) (some (1 : Int)))).map some) (some (none : (Option (P2 Int Int))))))
    (some (Fl.nx s6))) fun s7 => (ah (S1 := LtT) (a9 (b2 eqM ((some bb).map Dd.w) (some ("move" : Str)))
    (b1 (fun y => (fun aH => (some (Fl.nx aH))) ({ s7 with rows := y } : LtT)) (b5 py (b2 ny (some (LtT.rows s7)) ((some bb).bind (Dd.int 1))) ((some bb).bind (Dd.int 0)) ((some bb).bind (Dd.int 2)) ((some bb).bind (Dd.int 3)) ((some bb).bind (Dd.int 1))))
    (some (Fl.nx s7))) fun s8 => (ah (S1 := LtT) (a9 (b2 eqM ((some bb).map Dd.w) (some ("strike" : Str)))
    (b1 (fun y => (fun aH => (some (Fl.nx aH))) ({ s8 with past := y } : LtT)) (b1 (lcM fun x11 => lcE (b2 neM ((some x11).map P4.a) ((some bb).bind (Dd.int 0))) (some x11)) (some (LtT.past s8))))
    (some (Fl.nx s8))) fun s10 => (b1 (fun r => some (Fl.rt r)) (some s10)))))))))))) (some aH))
end Kj

namespace He
open PySem PySem.Spec PyProof.Rows L2
end He
namespace LamX
open PySem PySem.Spec PyProof.Rows L2
end LamX

namespace Kj
open PySem L2 LamX
def IE (a : Addr) : Abs := ⟨fun v _ => v = .ref a, fun _ _ _ _ h => h⟩
def HN (K : PySem.W.Frag) (cls : Value) (d : Option Addr) (a : Addr) (i : Nat) (c : Addr) : TE := fun σ H Q => ∃ D b, cls = .ref D ∧ d = none ∧ ExcC K D ∧ σ[i]? = some (some (.ref a)) ∧ PySem.W.kitOne K (.ref D) (.ref c) = some b ∧ Q (.bl b) H
section
variable {Gw : WK} {H0 : Hp} {ρ : List Slot} {K : PySem.W.Frag} {α γ S S1 R : Type} {A : R → Abs} {Bs : S → List Slot} {B1 : S1 → List Slot} {u : TS} {C : Addr} {T : Tb} {Pa : Addr → Prop} {O : γ → List (Str × Abs)} {ta : TE}
def HH {S : Type} (lx : List Str) (ok : γ → Option (Fl S R)) (p : Str → Option (Fl S R)) (m : Option (Rs γ)) : Option (Fl S R) := m.bind fun r => match r with | .ok x => ok x | .ex e => if lx.contains e.name = true ∧ e.flds = [] then p e.name else none
def Iw {γ : Type} (f : Str → Str → Bool) (m : Option (γ × Str)) (mb : Option Str) : Option (γ × Bool) := m.bind fun r => mb.map fun y => (r.1, f r.2 y)
end
end Kj

namespace Kj
open PySem L2
def eG (bd : Int) (ci : Int) : Option Int := ba (S := Unit) (R := Int) 
  (ah (S1 := Unit) (a9 (b2 eqM (b2 bJ (b2 hW (some bd) (some ci)) (some (8 : Int))) (some (7 : Int)))
    (b1 (fun r => some (Fl.rt r)) (b2 atI (b1 aK (b2 ar (b1 jY (some (1 : Int))) (b2 ar (some ci) (b2 ar (b2 powI (some (10 : Int)) (some (20 : Int))) (some ([] : List Int)))))) (b2 bJ (some bd) (some (3 : Int)))))
    (some (Fl.nx ()))) fun s1 => (b1 (fun r => some (Fl.rt r)) (b2 bJ (some bd) (some ci))))
def ll (aj : (List (List (List Int)))) (af : (List Int)) : Option (P4 Int Int Int Int) := ba (S := Unit) (R := (P4 Int Int Int Int)) 
  (b1 (fun bW => (ah (S1 := Unit) (a9 (fG (b2 ltI (b2 bJ (b2 atI (some af) (some (0 : Int))) (some (5 : Int))) (some (4 : Int))) (b2 neM (some bW) (b1 aK (some ([] : List (P4 Int Int Int Int))))))
    (b1 (fun r => some (Fl.rt r)) (b2 atI (some bW) (b2 bJ (b2 atI (some af) (some (1 : Int))) (b1 b7 (some bW)))))
    (some (Fl.nx ()))) fun s1 => (b1 (fun r => some (Fl.rt r)) (b4 mk4 (b2 eG (b2 atI (some af) (some (1 : Int))) (some (2 : Int))) (b2 eG (b2 atI (some af) (some (2 : Int))) (some (3 : Int))) (b2 eG (b2 atI (some af) (some (3 : Int))) (some (4 : Int))) (b2 eG (b2 atI (some af) (some (4 : Int))) (some (4 : Int)))))))
    (b1 j2 (some aj)))
def gk (bW : (List Int)) (bd : Int) (aa : (List (List Str))) : Option Int := ba (S := Unit) (R := Int) 
  (ah (S1 := Unit) (a9 (b2 eqM (b2 bJ (some bd) (some (9 : Int))) (some (8 : Int)))
    (b1 (fun r => some (Fl.rt r)) (b2 pw (b2 hW (some bd) (some (9 : Int))) (b1 b7 (some aa))))
    (some (Fl.nx ()))) fun s1 => (ah (S1 := Unit) (a9 (orM (b2 eqM (some bW) (b1 aK (some ([] : List Int)))) (b2 eqM (b2 bJ (some bd) (some (9 : Int))) (some (7 : Int))))
    (b1 (fun r => some (Fl.rt r)) (b2 bJ (b2 hW (some bd) (some (9 : Int))) (b1 b7 (some aa))))
    (some (Fl.nx ()))) fun s2 => (b1 (fun r => some (Fl.rt r)) (b2 atI (some bW) (b2 bJ (b2 hW (some bd) (some (9 : Int))) (b1 b7 (some bW)))))))
def rT (aa : (List (List Str))) (aH : LtT) (af : (List Int)) : Option Str := ba (S := Unit) (R := Str) 
  (ah (S1 := Unit) (a9 (b2 eqM (b2 bJ (b2 atI (some af) (some (0 : Int))) (some (9 : Int))) (some (8 : Int)))
    (b1 (fun r => some (Fl.rt r)) (b2 atI (b2 xB (some ("read say touch close hush send waive move strike" : Str)) (some (" " : Str))) (b2 bJ (b2 atI (some af) (some (1 : Int))) (some (9 : Int)))))
    (some (Fl.nx ()))) fun s1 => (ah (S1 := Unit) (a9 (((some aH).map LtT.owed).map Option.isSome)
    (b1 (fun r => some (Fl.rt r)) (b2 atI (b1 aK (b2 ar (some ("send" : Str)) (b2 ar (some ("send" : Str)) (b2 ar (some ("waive" : Str)) (b2 ar (some ("send" : Str)) (b2 ar (some ("strike" : Str)) (some ([] : List Str)))))))) (b2 bJ (b2 atI (some af) (some (1 : Int))) (some (5 : Int)))))
    (some (Fl.nx ()))) fun s2 => (ah (S1 := Unit) (a9 (((some aH).map LtT.spoken).map Option.isNone)
    (b1 (fun r => some (Fl.rt r)) (b2 atI (b1 aK (b2 ar (some ("read" : Str)) (b2 ar (some ("read" : Str)) (b2 ar (some ("move" : Str)) (b2 ar (some ("read" : Str)) (b2 ar (some ("strike" : Str)) (b2 ar (some ("read" : Str)) (some ([] : List Str))))))))) (b2 bJ (b2 atI (some af) (some (1 : Int))) (some (6 : Int)))))
    (some (Fl.nx ()))) fun s3 => (ah (S1 := Unit) (a9 (b2 eqM ((((some aH).map LtT.spoken).bind id).map P2.b) (b1 b7 (b2 atI (some aa) ((((some aH).map LtT.spoken).bind id).map P2.a))))
    (b1 (fun r => some (Fl.rt r)) (b2 atI (b1 aK (b2 ar (some ("close" : Str)) (b2 ar (some ("touch" : Str)) (b2 ar (some ("close" : Str)) (b2 ar (some ("close" : Str)) (b2 ar (some ("touch" : Str)) (b2 ar (some ("close" : Str)) (b2 ar (some ("hush" : Str)) (some ([] : List Str)))))))))) (b2 bJ (b2 atI (some af) (some (1 : Int))) (some (7 : Int)))))
    (some (Fl.nx ()))) fun s4 => (b1 (fun r => some (Fl.rt r)) (b2 atI (b1 aK (b2 ar (some ("say" : Str)) (b2 ar (some ("touch" : Str)) (b2 ar (some ("say" : Str)) (b2 ar (some ("say" : Str)) (b2 ar (some ("touch" : Str)) (b2 ar (some ("say" : Str)) (b2 ar (some ("say" : Str)) (some ([] : List Str)))))))))) (b2 bJ (b2 atI (some af) (some (1 : Int))) (some (7 : Int)))))))))
def AN (aa : (List (List Str))) (aH : LtT) (d8 : Str) (af : (List Int)) : Option Dd := ba (S := Unit) (R := Dd) 
  (b1 (fun cn => (b1 (fun aj => (b1 (fun co => (ah (S1 := Unit) (a9 (b2 inM (some cn) (b1 aK (b2 ar (some ("read" : Str)) (b2 ar (some ("strike" : Str)) (some ([] : List Str))))))
    (b1 (fun bW => (b1 (fun r => some (Fl.rt r)) (b3 qp (some cn) (some d8) (b2 ddI (b3 gk (some bW) (b2 atI (some af) (some (2 : Int))) (some aa)) (some [])))))
    (a9 (b2 eqM (some cn) (some ("read" : Str))) (b2 lP (some aa) (some aH)) (b1 (lcM fun x2 => lcE (some true) ((some x2).map P4.a)) ((some aH).map LtT.past))))
    (some (Fl.nx ()))) fun s1 => (ah (S1 := Unit) (a9 (b2 eqM (some cn) (some ("touch" : Str)))
    (b1 (fun r => some (Fl.rt r)) (b3 qp (some cn) (some d8) (b2 ddI (some co) (b2 ddS (b2 ll (some aj) (b3 cM (some af) (bN (some (3 : Int))) ce)) (some [])))))
    (some (Fl.nx ()))) fun s3 => (ah (S1 := Int) (a9 (b2 eqM (some cn) (some ("send" : Str)))
    (b1 (fun co => (b1 (fun bG => (b1 (fun r => some (Fl.rt r)) (b3 qp (some cn) (some d8) (b2 ddI (some bG) (b2 ddI (b2 eG (b2 atI (some af) (some (4 : Int))) (b1 b7 (b2 atI (some aj) (b2 jT (some (1 : Int)) (some co))))) (some []))))))
    (b3 gk (b2 gV (some aj) (some co)) (b2 atI (some af) (some (3 : Int))) (some aa))))
    (a9 (((some aH).map LtT.owed).map Option.isNone) (some (0 : Int)) ((((some aH).map LtT.owed).bind id).map P2.a)))
    (some (Fl.nx co))) fun s4 => (ah (S1 := Unit) (a9 (b2 eqM (some cn) (some ("move" : Str)))
    (b1 (fun bG => (b1 (fun r => some (Fl.rt r)) (b3 qp (some cn) (some d8) (b2 ddI (some s4) (b2 ddI (some bG) (b2 ddI (b2 eG (b2 atI (some af) (some (4 : Int))) (b1 b7 (b2 atI (some aj) (b2 bJ (some s4) (some (2 : Int)))))) (b2 ddI (b2 eG (b2 atI (some af) (some (5 : Int))) (b2 cN (some (4 : Int)) (b2 fE (b2 bJ (b2 atI (some af) (some (6 : Int))) (some (2 : Int))) (some (9 : Int))))) (some []))))))))
    (b3 gk (b2 gV (some aj) (b2 bJ (some s4) (some (2 : Int)))) (b2 atI (some af) (some (3 : Int))) (some aa)))
    (some (Fl.nx ()))) fun s5 => (b1 (fun r => some (Fl.rt r)) (b3 qp (some cn) (some d8) (some []))))))))
    (b2 eG (b2 atI (some af) (some (2 : Int))) (some (2 : Int)))))
    ((some aH).map LtT.rows)))
    (b3 rT (some aa) (some aH) (some af)))
def lp (aj : (List (List (List Int)))) (db : Int) (bH : Int) (fU : Int) (bG : Int) : Option Str := ba (S := Unit) (R := Str) 
  (ah (S1 := Unit) (a9 (dC (chM leI ltI (some (0 : Int)) (some bH) (b1 b7 (b2 atI (some aj) (some db)))))
    (b1 (fun r => some (Fl.rt r)) (some ("NoField" : Str)))
    (some (Fl.nx ()))) fun s1 => (b1 (fun bc => (ah (S1 := Unit) (a9 (b2 gtI (some bc) (some (11 : Int)))
    (b1 (fun r => some (Fl.rt r)) (some ("Full" : Str)))
    (some (Fl.nx ()))) fun s3 => (b1 (fun r => some (Fl.rt r)) (a9 (chM leI leI (some (0 : Int)) (some fU) (some bc)) (some ("" : Str)) (some ("NoPlace" : Str))))))
    (b1 b7 (b1 (lcM fun x2 => lcE (b2 neM (some x2) (some bG)) (some x2)) (b2 atI (b2 atI (some aj) (some db)) (some bH))))))
def nu (aa : (List (List Str))) (aH : LtT) (bb : Dd) : Option Str := ba (S := Unit) (R := Str) 
  (ah (S1 := Unit) (a9 (b2 inM ((some bb).map Dd.w) (b1 aK (b2 ar (some ("say" : Str)) (b2 ar (some ("close" : Str)) (some ([] : List Str))))))
    (b1 (fun uc => (b1 (fun r => some (Fl.rt r)) (b2 atI (b1 aK (b2 ar (some ("" : Str)) (b2 ar (some ("AllSaid" : Str)) (b2 ar (some ("TooEarly" : Str)) (b2 ar (some ("" : Str)) (some ([] : List Str))))))) (b2 cN (b2 fE (some (2 : Int)) (b1 qq (b2 eqM ((some bb).map Dd.w) (some ("close" : Str))))) (b1 qq (some uc))))))
    (b2 eqM ((((some aH).map LtT.spoken).bind id).map P2.b) (b1 b7 (b2 atI (some aa) ((((some aH).map LtT.spoken).bind id).map P2.a)))))
    (some (Fl.nx ()))) fun s1 => (ah (S1 := Unit) (a9 (fG (b2 inM ((some bb).map Dd.w) (b1 aK (b2 ar (some ("move" : Str)) (b2 ar (some ("touch" : Str)) (some ([] : List Str)))))) (dC (chM leI leI (some (0 : Int)) ((some bb).bind (Dd.int 0)) (some (1 : Int)))))
    (b1 (fun r => some (Fl.rt r)) (some ("NoSide" : Str)))
    (some (Fl.nx ()))) fun s2 => (ah (S1 := Unit) (a9 (b2 eqM ((some bb).map Dd.w) (some ("touch" : Str)))
    (b1 (fun r => some (Fl.rt r)) (b2 j7 ((some aH).map LtT.rows) ((some bb).bind (Dd.sw 1))))
    (some (Fl.nx ()))) fun s3 => (ah (S1 := Unit) (a9 (b2 inM ((some bb).map Dd.w) (b1 aK (b2 ar (some ("hush" : Str)) (b2 ar (some ("waive" : Str)) (some ([] : List Str))))))
    (b1 (fun r => some (Fl.rt r)) (some ("" : Str)))
    (some (Fl.nx ()))) fun s4 => (b1 (fun bG => (ah (S1 := Unit) (a9 (dC (chM leI ltI (some (0 : Int)) (some bG) (b1 b7 (some aa))))
    (b1 (fun r => some (Fl.rt r)) (some ("NoVerse" : Str)))
    (some (Fl.nx ()))) fun s5 => (ah (S1 := Unit) (a9 (b2 inM ((some bb).map Dd.w) (b1 aK (b2 ar (some ("read" : Str)) (b2 ar (some ("strike" : Str)) (some ([] : List Str))))))
    (b1 (fun fv => (b1 (fun r => some (Fl.rt r)) (b2 atI (b1 aK (b2 ar (some ("ReadAlready" : Str)) (b2 ar (some ("" : Str)) (b2 ar (some ("" : Str)) (b2 ar (some ("NotRead" : Str)) (some ([] : List Str))))))) (b2 cN (b2 fE (some (2 : Int)) (b1 qq (b2 eqM ((some bb).map Dd.w) (some ("strike" : Str))))) (b1 qq (some fv))))))
    (b2 inM (some bG) (b2 lP (some aa) (some aH))))
    (some (Fl.nx ()))) fun s6 => (b1 (fun co => (ah (S1 := Unit) (a9 (b2 neM (b2 eW ((some aH).map LtT.rows) (some bG)) (some co))
    (b1 (fun r => some (Fl.rt r)) (some ("NoCard" : Str)))
    (some (Fl.nx ()))) fun s7 => (ah (S1 := Unit) (a9 (b2 eqM ((some bb).map Dd.w) (some ("send" : Str)))
    (b1 (fun r => some (Fl.rt r)) (b5 lp ((some aH).map LtT.rows) (b2 jT (some (1 : Int)) (some co)) ((some bb).bind (Dd.int 1)) (some (0 : Int)) (some bG)))
    (some (Fl.nx ()))) fun s8 => (b1 (fun r => some (Fl.rt r)) (b5 lp ((some aH).map LtT.rows) (some co) ((some bb).bind (Dd.int 2)) ((some bb).bind (Dd.int 3)) (some bG))))))
    (a9 (b2 eqM ((some bb).map Dd.w) (some ("move" : Str))) ((some bb).bind (Dd.int 0)) ((((some aH).map LtT.owed).bind id).map P2.a))))))
    (a9 (b2 eqM ((some bb).map Dd.w) (some ("move" : Str))) ((some bb).bind (Dd.int 1)) ((some bb).bind (Dd.int 0))))))))
def B_ (aa : (List (List Str))) (aH : LtT) (bb : Dd) : Option Str := ba (S := Unit) (R := Str) 
  (ah (S1 := Unit) (a9 (b2 inM ((some bb).map Dd.w) (b1 aK (b2 ar (some ("read" : Str)) (b2 ar (some ("move" : Str)) (b2 ar (some ("strike" : Str)) (some ([] : List Str)))))))
    (ah (S1 := Unit) (a9 ((b1 mu (some aH)).map Option.isSome)
    (b1 (fun r => some (Fl.rt r)) (some ("Over" : Str)))
    (some (Fl.nx ()))) fun s10 => (ah (S1 := Unit) (a9 (fG (b2 eqM ((some bb).map Dd.w) (some ("read" : Str))) (((some aH).map LtT.owed).map Option.isSome))
    (b1 (fun r => some (Fl.rt r)) (some ("GiftDue" : Str)))
    (some (Fl.nx ()))) fun s11 => (ah (S1 := Unit) (a9 (((some aH).map LtT.spoken).map Option.isSome)
    (b1 (fun r => some (Fl.rt r)) (some ("Reading" : Str)))
    (some (Fl.nx ()))) fun s12 => (some (Fl.nx ())))))
    (ah (S1 := Unit) (a9 (b2 inM ((some bb).map Dd.w) (b1 aK (b2 ar (some ("send" : Str)) (b2 ar (some ("waive" : Str)) (some ([] : List Str))))))
    (ah (S1 := Unit) (a9 (((some aH).map LtT.owed).map Option.isNone)
    (b1 (fun r => some (Fl.rt r)) (some ("NotDue" : Str)))
    (some (Fl.nx ()))) fun s16 => (some (Fl.nx ())))
    (ah (S1 := Unit) (a9 (((some aH).map LtT.spoken).map Option.isNone)
    (b1 (fun r => some (Fl.rt r)) (some ("NotDue" : Str)))
    (some (Fl.nx ()))) fun s17 => (some (Fl.nx ())))) fun s15 => (some (Fl.nx ())))) fun s9 => (b1 (fun r => some (Fl.rt r)) (b3 nu (some aa) (some aH) (some bb))))
end Kj

namespace Kj
open PySem L2 LamX
section
variable {Gw : WK} {H0 : Hp} {ρ : List Slot} {K : PySem.W.Frag} {f g : Bool} {α β γ S S1 R : Type} {A : R → Abs} {B : S → List Slot} {B1 : S1 → List Slot} {u : TS} {C : Addr} {Pa : Addr → Prop} {O : γ → List (Str × Abs)} {i : Nat} {t1 t2 : TT} {Ax : α → Abs} {Bx : β → Abs}
def Ij (ma : Option (γ × Bool)) (mb : γ → Option (γ × Bool)) : Option (γ × Bool) := ma.bind fun r => if r.2 = true then some (r.1, true) else mb r.1
def Hz (ma : Option (γ × Bool)) (mb : γ → Option (γ × Bool)) : Option (γ × Bool) := ma.bind fun r => if r.2 = true then mb r.1 else some (r.1, false)
def rsU (m : Option (Rs α)) : Option (Rs Unit) := m.bind fun r => match r with | .ok _ => some (.ok ()) | .ex e => some (.ex e)
def okO (m : Option (Rs α)) : Option α := m.bind fun r => match r with | .ok y => some y | .ex _ => none
end
section
variable {K : PySem.W.Frag} {C : Addr} {α β : Type}
def IH (C : Addr) (fas : List (Str × Abs)) : Prop := ∀ f ∈ fas, ∀ v G p dx fs, G p = some (.ins C dx fs) → f.2.p v G → f.2.p v (rm G p)
end
end Kj

namespace Kj
open PySem L2
structure LvT where
  rows : List (List (List Int))
  past : List (P4 Int (Option Int) Bool Bool)
  spoken : Option (P2 Int Int)
  owed : Option (P2 Int Int)
  deriving DecidableEq
abbrev oLv (K : PySem.W.Frag) (t : LvT) : List (Str × Abs) := [("rows", aE K t.rows), ("past", aE K t.past), ("spoken", aE K t.spoken), ("owed", aE K t.owed)]
abbrev aLv (K : PySem.W.Frag) (t : LvT) : Abs := F1 (oLv K t)
def wT (aI : DealT) (a_ : (List Int)) (dR : (List Str)) (ca : (P4 Int Int Int Int)) : Option (Option Int) := ba (S := Unit) (R := (Option Int)) 
  (b1 (fun iU => (b1 (fun _ => (b1 (fun gP => (b1 (fun r => some (Fl.rt r)) (a9 ((some gP).map fun xs => !xs.isEmpty) ((b2 atI (some gP) (some (0 : Int))).map some) (some (none : (Option Int))))))
    (b3 iZ (some aI) (some iU) ((some ca).map P4.a)))) (b2 gp (some aI) (some ca))))
    (b3 jG (b1 bA (some aI) ) (some a_) (some dR)))
def Dg (bv : BookT) (fm : Int) (bF : Int) : Option (Rs Int) := ig (S := Unit) (R := Int) 
  (b1 (fun cg => (ah (S1 := Int) (b1 (fun xs => cD (fun x2 s1 => (ah (S1 := Unit) (a9 (b2 neM (some x2.a) (some x2.b))
    (b1 (fun r => some (Fl.rt r)) (some s1))
    (some (Fl.nx ()))) fun s4 => (b1 (fun y => (fun cg => (some (Fl.nx cg))) ((fun i j => i + j) s1 y)) (some (1 : Int))))) xs cg) (b2 Cq (b2 bM (some bv) (some fm)) (b2 bM (some bv) (some bF)))) fun s1 => (b1 (fun r => some (Fl.rt r)) (some s1))))
    (some (0 : Int)))
def rX (bv : BookT) (a_ : (List Int)) (ak : Int) : Option (Rs (List Str)) := ig (S := Unit) (R := (List Str)) 
  (b1 (fun cg => (ah (S1 := Int) (Cs (fun s1 => (rsM (fun mz => (mz.map fun xs => !xs.isEmpty)) (b4 po (some bv) (some a_) (some ak) (some s1)))) (fun s1 => (b1 (fun y => (fun cg => (some (Fl.nx cg))) ((fun i j => i + j) s1 y)) (some (1 : Int)))) fuelN cg) fun s1 => (b1 (fun r => some (Fl.rt r)) (b3 cM (b2 bM (some bv) (some ak)) ce (bN (some s1))))))
    (some (0 : Int)))
def xg (ac : TableT) (ca : (P4 Int Int Int Int)) : Option (Option Int) := ba (S := Unit) (R := (Option Int)) 
  (b1 (fun r => some (Fl.rt r)) (b4 wT ((some ac).map TableT.lying) (b1 el (some ac) ) (b1 gq (some ac) ) (some ca)))
def uH (ac : TableT) (ak : Int) : Option (Rs (List Str)) := ig (S := Unit) (R := (List Str)) 
  (bX (fun r => some (Fl.rt r)) (b3 rX (b1 bA ((some ac).map TableT.lying) ) (b1 el (some ac) ) (some ak)))
def vQ (ac : TableT) (ca : (P4 Int Int Int Int)) : Option (Rs (Option Int)) := ig (S := Unit) (R := (Option Int)) 
  (bX (fun r => some (Fl.rt r)) (b4 tM ((some ac).map TableT.lying) (b1 el (some ac) ) (b1 gq (some ac) ) (some ca)))
def yI (aa : (List (List Str))) (fv : (List Int)) (bG : Int) : Option (List Str) := ba (S := Unit) (R := (List Str)) 
  (b1 (fun bc => (ah (S1 := Int) (gZ (fun s1 => (b2 neM (b4 mv (some aa) (some fv) (some bG) (some s1)) (b1 aK (some ([] : List Int))))) (fun s1 => (b1 (fun y => (fun bc => (some (Fl.nx bc))) ((fun i j => i + j) s1 y)) (some (1 : Int)))) fuelN bc) fun s1 => (b1 (fun r => some (Fl.rt r)) (b3 cM (b2 atI (some aa) (some bG)) ce (bN (some s1))))))
    (some (0 : Int)))
def yH (aa : (List (List Str))) (aj : (List (List (List Int)))) (fv : (List Int)) : Option (List (P2 (Tp Str) (P4 Int Int Int Int))) := ba (S := Unit) (R := (List (P2 (Tp Str) (P4 Int Int Int Int)))) 
  (b1 (fun lD => (b1 (fun lC => (ah (S1 := (List (P2 (Tp Str) (P4 Int Int Int Int))) × (List (List Str))) (b1 (fun xs => cD (fun x2 s1 => (ah (S1 := (List (P2 (Tp Str) (P4 Int Int Int Int))) × (List (List Str))) (a9 (fG (b2 inM (some x2) (some fv)) (b2 geI (b2 eW (some aj) (some x2)) (some (0 : Int))))
    (b1 (fun fV => (ah (S1 := (List (P2 (Tp Str) (P4 Int Int Int Int))) × (List (List Str))) (a9 (b2 jW (some fV) (some s1.2))
    (b1 (fun x => kU s1.2 x fun lC => (b1 (fun bW => (b1 (fun lD => (some (Fl.nx (lD, lC))))
    (b2 dw (some s1.1) (b1 (lcM fun x16 => lcE (some true) (b2 mk2 (b1 oU (some fV)) (some x16))) (some bW)))))
    (b2 nQ (some aj) (b3 j3 (some aa) (some fv) (some fV))))) (some fV))
    (some (Fl.nx (s1.1, s1.2)))) fun s15 => (some (Fl.nx (s15.1, s15.2)))))
    (b3 cM (b2 atI (some aa) (some x2)) ce (bN (b4 mx (some aa) (some aj) (some fv) (some x2)))))
    (some (Fl.nx (s1.1, s1.2)))) fun s13 => (some (Fl.nx (s13.1, s13.2))))) xs (lD, lC)) (b1 rngM (b1 b7 (some aa)))) fun s1 => (b1 (fun r => some (Fl.rt r)) (some s1.1)))) (some ([] : (List (List Str))))))
    (b1 aK (some ([] : List (P2 (Tp Str) (P4 Int Int Int Int))))))
def rU (aa : (List (List Str))) (aH : LvT) : Option (List Int) := ba (S := Unit) (R := (List Int)) 
  (b1 (fun jR => (b1 (fun r => some (Fl.rt r)) (b1 (lcM fun x2 => lcE (b2 jW (some x2) (some jR)) (some x2)) (b1 rngM (b1 b7 (some aa))))))
    (b1 (lcM fun x1 => lcE (some true) ((some x1).map P4.a)) ((some aH).map LvT.past)))
def pu (aa : (List (List Str))) (aH : LvT) (af : (List Int)) : Option Str := ba (S := Unit) (R := Str) 
  (ah (S1 := Unit) (a9 (b2 eqM (b2 bJ (b2 atI (some af) (some (0 : Int))) (some (9 : Int))) (some (8 : Int)))
    (b1 (fun r => some (Fl.rt r)) (b2 atI (b2 xB (some ("read say touch close hush send waive move strike" : Str)) (some (" " : Str))) (b2 bJ (b2 atI (some af) (some (1 : Int))) (some (9 : Int)))))
    (some (Fl.nx ()))) fun s1 => (ah (S1 := Unit) (a9 (((some aH).map LvT.owed).map Option.isSome)
    (b1 (fun r => some (Fl.rt r)) (b2 atI (b1 aK (b2 ar (some ("send" : Str)) (b2 ar (some ("send" : Str)) (b2 ar (some ("waive" : Str)) (b2 ar (some ("send" : Str)) (b2 ar (some ("strike" : Str)) (some ([] : List Str)))))))) (b2 bJ (b2 atI (some af) (some (1 : Int))) (some (5 : Int)))))
    (some (Fl.nx ()))) fun s2 => (ah (S1 := Unit) (a9 (((some aH).map LvT.spoken).map Option.isNone)
    (b1 (fun r => some (Fl.rt r)) (b2 atI (b1 aK (b2 ar (some ("read" : Str)) (b2 ar (some ("read" : Str)) (b2 ar (some ("move" : Str)) (b2 ar (some ("read" : Str)) (b2 ar (some ("strike" : Str)) (b2 ar (some ("read" : Str)) (some ([] : List Str))))))))) (b2 bJ (b2 atI (some af) (some (1 : Int))) (some (6 : Int)))))
    (some (Fl.nx ()))) fun s3 => (ah (S1 := Unit) (a9 (b2 eqM ((((some aH).map LvT.spoken).bind id).map P2.b) (b1 b7 (b2 atI (some aa) ((((some aH).map LvT.spoken).bind id).map P2.a))))
    (b1 (fun r => some (Fl.rt r)) (b2 atI (b1 aK (b2 ar (some ("close" : Str)) (b2 ar (some ("touch" : Str)) (b2 ar (some ("close" : Str)) (b2 ar (some ("close" : Str)) (b2 ar (some ("touch" : Str)) (b2 ar (some ("close" : Str)) (b2 ar (some ("hush" : Str)) (some ([] : List Str)))))))))) (b2 bJ (b2 atI (some af) (some (1 : Int))) (some (7 : Int)))))
    (some (Fl.nx ()))) fun s4 => (b1 (fun r => some (Fl.rt r)) (b2 atI (b1 aK (b2 ar (some ("say" : Str)) (b2 ar (some ("touch" : Str)) (b2 ar (some ("say" : Str)) (b2 ar (some ("say" : Str)) (b2 ar (some ("touch" : Str)) (b2 ar (some ("say" : Str)) (b2 ar (some ("say" : Str)) (some ([] : List Str)))))))))) (b2 bJ (b2 atI (some af) (some (1 : Int))) (some (7 : Int)))))))))
def yG (aa : (List (List Str))) (aH : LvT) (d8 : Str) (af : (List Int)) : Option Dd := ba (S := Unit) (R := Dd) 
  (b1 (fun cn => (b1 (fun aj => (b1 (fun co => (ah (S1 := Unit) (a9 (b2 inM (some cn) (b1 aK (b2 ar (some ("read" : Str)) (b2 ar (some ("strike" : Str)) (some ([] : List Str))))))
    (b1 (fun bW => (b1 (fun r => some (Fl.rt r)) (b3 qp (some cn) (some d8) (b2 ddI (b3 gk (some bW) (b2 atI (some af) (some (2 : Int))) (some aa)) (some [])))))
    (a9 (b2 eqM (some cn) (some ("read" : Str))) (b2 rU (some aa) (some aH)) (b1 (lcM fun x2 => lcE (some true) ((some x2).map P4.a)) ((some aH).map LvT.past))))
    (some (Fl.nx ()))) fun s1 => (ah (S1 := Unit) (a9 (b2 eqM (some cn) (some ("touch" : Str)))
    (b1 (fun r => some (Fl.rt r)) (b3 qp (some cn) (some d8) (b2 ddI (some co) (b2 ddS (b2 ll (some aj) (b3 cM (some af) (bN (some (3 : Int))) ce)) (some [])))))
    (some (Fl.nx ()))) fun s3 => (ah (S1 := Int) (a9 (b2 eqM (some cn) (some ("send" : Str)))
    (b1 (fun co => (b1 (fun bG => (b1 (fun r => some (Fl.rt r)) (b3 qp (some cn) (some d8) (b2 ddI (some bG) (b2 ddI (b2 eG (b2 atI (some af) (some (4 : Int))) (b1 b7 (b2 atI (some aj) (b2 jT (some (1 : Int)) (some co))))) (some []))))))
    (b3 gk (b2 gV (some aj) (some co)) (b2 atI (some af) (some (3 : Int))) (some aa))))
    (a9 (((some aH).map LvT.owed).map Option.isNone) (some (0 : Int)) ((((some aH).map LvT.owed).bind id).map P2.a)))
    (some (Fl.nx co))) fun s4 => (ah (S1 := Unit) (a9 (b2 eqM (some cn) (some ("move" : Str)))
    (b1 (fun bG => (b1 (fun r => some (Fl.rt r)) (b3 qp (some cn) (some d8) (b2 ddI (some s4) (b2 ddI (some bG) (b2 ddI (b2 eG (b2 atI (some af) (some (4 : Int))) (b1 b7 (b2 atI (some aj) (b2 bJ (some s4) (some (2 : Int)))))) (b2 ddI (b2 eG (b2 atI (some af) (some (5 : Int))) (b2 cN (some (4 : Int)) (b2 fE (b2 bJ (b2 atI (some af) (some (6 : Int))) (some (2 : Int))) (some (9 : Int))))) (some []))))))))
    (b3 gk (b2 gV (some aj) (b2 bJ (some s4) (some (2 : Int)))) (b2 atI (some af) (some (3 : Int))) (some aa)))
    (some (Fl.nx ()))) fun s5 => (b1 (fun r => some (Fl.rt r)) (b3 qp (some cn) (some d8) (some []))))))))
    (b2 eG (b2 atI (some af) (some (2 : Int))) (some (2 : Int)))))
    ((some aH).map LvT.rows)))
    (b3 pu (some aa) (some aH) (some af)))
def Dk (cF : TableT) : Option LvT := ba (S := Unit) (R := LvT) 
  (b1 (fun eQ => (b1 (fun rc => (b1 (fun r => some (Fl.rt r)) ((b2 pr2 (b1 aK (b2 ar (b2 dZ (some eQ) (some (0 : Int))) (b2 ar (b2 dZ (some eQ) (some (1 : Int))) (some ([] : List (List (List Int))))))) (b2 pr2 (b1 jI (some cF) ) (b2 pr2 (some rc) (b2 pr2 (b1 nR (some cF) ) (some ()))))).map fun (x : (List (List (List Int))) × (List (P4 Int (Option Int) Bool Bool)) × (Option (P2 Int Int)) × (Option (P2 Int Int)) × Unit) => (⟨x.1, x.2.1, x.2.2.1, x.2.2.2.1⟩ : LvT))))
    (a9 ((b1 ju (some cF) ).map Option.isNone) (some (none : (Option (P2 Int Int)))) ((b2 mk2 ((b1 ju (some cF) ).bind id) (b1 b7 (b1 gq (some cF) ))).map some))))
    (b1 mH (some cF) ))
end Kj

namespace Kj
open PySem L2 LamX
theorem GrownW.refl {T : Tb} {G H : Hp} (t : Tabs T G) : GrownW T G H G := ⟨t, fun a o h => .inl ⟨o, h⟩⟩
theorem GrownW.up {T : Tb} {G H H1 G' : Hp} (g : GrownW T G H1 G') (s : Same H H1) : GrownW T G H G' := ⟨g.tabs, fun a o h => (g.fresh a o h).imp id fun z => s.free z⟩
theorem GrownW.trans {T : Tb} {G H G1 H1 G2 : Hp} (g : GrownW T G H G1) (h : GrownW T G1 H1 G2) (hn : ∀ a, H1 a = none → G a = none → H a = none) : GrownW T G H G2 := ⟨h.tabs, fun a o e => by
  rcases h.fresh a o e with ⟨u, z⟩ | z
  · exact g.fresh a u z
  · cases y : G a with
    | some u => exact .inl ⟨u, rfl⟩
    | none => exact .inr (hn a z y)⟩
def H_ (T : Tb) (S : List Abs → Abs → Prop) : Sp := fun vs H Q _ => ∃ As R G, S As R ∧ AllP As vs (mns H G) ∧ Same G H ∧ Tabs T G ∧
  ∀ v H' G', GrownW T G H G' → Same G' H' → Same (ovl G G' H) H' → R.p v (mns (mns H' (mns H G)) G') → Q v H'
structure EnvG (T : Tb) (H0 : Hp) (σ : St) (ρ : List Slot) (H Hr G : Hp) : Prop where
  e : EnvOk H0 σ ρ H Hr
  nr : g9 ρ = true
  sG : Same G H
  tG : Tabs T G
  dr : ∀ a o, G a = some o → Hr a = none
  d0 : ∀ a o, G a = some o → H0 a = none
  dn : ∀ (j : Nat) (B : AbsO) (p : Addr), ρ[j]? = some (Slot.own B) → σ[j]? = some (some (V.ref p)) → G p = none
section
variable {T : Tb} {H0 H Hr G H' Hr' G' : Hp} {σ : St} {ρ : List Slot}
theorem EnvG.off (E : EnvG T H0 σ ρ H Hr G) {a : Addr} {o : HO} (h : Hr a = some o) : G a = none := by
  cases e : G a with
  | none => rfl
  | some u => rw [E.dr a u e] at h; cases h
theorem EnvG.off0 (E : EnvG T H0 σ ρ H Hr G) {a : Addr} {o : HO} (h : H0 a = some o) : G a = none := by
  cases e : G a with
  | none => rfl
  | some u => rw [E.d0 a u e] at h; cases h
structure Stp (T : Tb) (H Hr G H' Hr' G' : Hp) : Prop where
  g : GrownW T G H G'
  sG : Same G' H'
  f : Same (ovl G G' H) H'
  r : Same Hr Hr'
  s : Same Hr' H'
  n : ∀ a o, Hr' a = some o → Hr a = none → (G a = none → H a = none) ∧ G' a = none
theorem Stp.keep (x : Stp T H Hr G H' Hr' G') {a : Addr} {o : HO} (h : H a = some o) (n : G a = none) : H' a = some o := x.f _ _ (xW x.g h n)
theorem EnvG.step (E : EnvG T H0 σ ρ H Hr G) (x : Stp T H Hr G H' Hr' G') : EnvG T H0 σ ρ H' Hr' G' := by
  refine ⟨⟨fun a o q => x.keep (E.e.base _ _ q) (E.off0 q), x.s, E.e.len, fun j s hs => ?_, E.e.dis, .nil (iw E.nr)⟩, E.nr, x.sG, x.g.tabs, fun a o q => ?_, fun a o q => ?_, fun j B p hj hs => ?_⟩
  · have q := E.e.slot j s hs
    cases s with
    | no => trivial
    | reg A => trivial
    | dat A => obtain ⟨v, h1, h2⟩ := q; exact ⟨v, h1, A.mono _ _ _ x.r h2⟩
    | new A => obtain ⟨v, h1, h2⟩ := q; exact ⟨v, h1, A.mono _ _ _ (dI _ x.r) h2⟩
    | own B =>
      obtain ⟨p, o, h1, h2, h3, h4, h5⟩ := q
      refine ⟨p, o, h1, h2, ?_, x.keep h4 (E.dn j B p hs h1), B.mono _ _ _ _ (dI _ x.r) h5⟩
      cases y : Hr' p with
      | none => rfl
      | some u => have := (x.n p u y h3).1 (E.dn j B p hs h1); rw [h4] at this; cases this
  · cases y : Hr' a with
    | none => rfl
    | some u =>
      cases z : Hr a with
      | none => rw [(x.n a u y z).2] at q; cases q
      | some w => rw [x.g.off (E.e.sub _ _ z) (E.off z)] at q; cases q
  · cases y : H0 a with
    | none => rfl
    | some u => rw [x.g.off (E.e.base _ _ y) (E.off0 y)] at q; cases q
  · obtain ⟨p', o, h1, h2, h3, h4, h5⟩ := E.e.slot j _ hj
    rw [hs] at h1
    cases h1
    exact x.g.off h4 (E.dn j B p hj hs)
theorem EnvG.pure (E : EnvG T H0 σ ρ H Hr G) (x : Ext H Hr H' Hr') : Stp T H Hr G H' Hr' G := ⟨.refl E.tG, E.sG.trans x.h, by rw [xV E.sG]; exact x.h, x.r, x.s, fun a o q z => ⟨fun _ => x.n a o q z, by
  cases y : G a with
  | none => rfl
  | some u => have := x.n a o q z; rw [E.sG _ _ y] at this; cases this⟩⟩
theorem Stp.trans {H1 Hr1 G1 : Hp} (E : EnvG T H0 σ ρ H Hr G) (x : Stp T H Hr G H1 Hr1 G1) (y : Stp T H1 Hr1 G1 H' Hr' G') : Stp T H Hr G H' Hr' G' := by
  have hn : ∀ a, H1 a = none → G a = none → H a = none := fun a z n => by
    cases e : H a with
    | none => rfl
    | some o => rw [x.keep e n] at z; cases z
  refine ⟨x.g.trans y.g hn, y.sG, fun a o q => ?_, x.r.trans y.r, y.s, fun a o q z => ?_⟩
  · cases e : G' a with
    | some u => rw [CL e] at q; cases q; exact y.sG _ _ e
    | none =>
      cases e2 : G a with
      | some u => rw [xX e e2] at q; cases q
      | none =>
        rw [rq e e2] at q
        exact y.keep (x.keep q e2) (x.g.off q e2)
  · cases e : Hr1 a with
    | none =>
      obtain ⟨y1, y2⟩ := y.n a o q e
      refine ⟨fun hG => ?_, y2⟩
      cases e3 : G1 a with
      | none => exact hn a (y1 e3) hG
      | some w =>
        rcases x.g.fresh a w e3 with ⟨v, k⟩ | k
        · rw [hG] at k; cases k
        · exact k
    | some u =>
      obtain ⟨x1, x2⟩ := x.n a u e z
      refine ⟨x1, ?_⟩
      cases e3 : G' a with
      | none => rfl
      | some w =>
        rcases y.g.fresh a w e3 with ⟨v, k⟩ | k
        · rw [x2] at k; cases k
        · have := x.s _ _ e; rw [k] at this; cases this
end
section
variable {T : Tb} {H0 : Hp} {ρ : List Slot} {K : PySem.W.Frag} {f fw : Bool} {α β γ δ : Type} {t te ta tb : TE} {A : Abs}
def DET (T : Tb) (H0 : Hp) (ρ : List Slot) (t : TE) (A : Abs) : Prop := ∀ (σ : St) (H Hr G : Hp) (Q : VK), EnvG T H0 σ ρ H Hr G → (∀ v H' Hr' G', Stp T H Hr G H' Hr' G' → A.p v (mns Hr' H0) → Q v H') → t σ H Q
def DTG (T : Tb) (H0 : Hp) (ρ : List Slot) (t : TE) {α : Type} (A : α → Abs) (m : Option α) : Prop := ∀ x, m = some x → DET T H0 ρ t (A x)
theorem oK {B : AbsO} {j : Nat} : ∀ {vs : List Nat}, (jc ρ vs)[j]? = some (Slot.own B) → ρ[j]? = some (Slot.own B) ∧ j ∉ vs
  | [], h => ⟨h, by simp⟩
  | v :: vs, h => by
    have h : ((jc ρ vs).set v .no)[j]? = some (Slot.own B) := h
    rcases c8 h with ⟨_, z⟩ | ⟨n, z⟩
    · cases z
    · obtain ⟨a, b⟩ := oK z
      exact ⟨a, by simp [n, b]⟩
theorem vc {σ : St} {j : Nat} : ∀ {vs : List Nat}, j ∉ vs → (L2.wipe σ vs)[j]? = σ[j]?
  | [], _ => rfl
  | v :: vs, h => by
    rw [List.mem_cons, not_or] at h
    show ((L2.wipe σ vs).set v none)[j]? = _
    rw [List.getElem?_set_ne (Ne.symm h.1)]
    exact vc h.2
theorem EnvG.wipe {σ : St} {H Hr G : Hp} (E : EnvG T H0 σ ρ H Hr G) (vs : List Nat) : EnvG T H0 (L2.wipe σ vs) (jc ρ vs) H Hr G :=
  ⟨E.e.wipe vs, jX E.nr vs, E.sG, E.tG, E.dr, E.d0, fun j B p hj hs => by
    obtain ⟨a, b⟩ := oK hj
    rw [vc b] at hs
    exact E.dn j B p a hs⟩
theorem EnvG.upd {σ : St} {H Hr G : Hp} (E : EnvG T H0 σ ρ H Hr G) {D : Addr} {o : HO} (h0 : H0 D = none) (hr : Hr D = none) (hg : G D = none) (hD : ∀ (i : Nat) (B : AbsO) (p : Addr), ρ[i]? = some (.own B) → σ[i]? = some (some (.ref p)) → p ≠ D) : EnvG T H0 σ ρ (L2.upd H D o) Hr G :=
  ⟨E.e.out2 E.nr hD h0 hr, E.nr, fun a u q => by rw [upd_ne (ne_of_none q hg)]; exact E.sG _ _ q, E.tG, E.dr, E.d0, E.dn⟩
end
end Kj

namespace Kj
open PySem L2 LamX
def aT (T : Tb) (R : Abs) : Abs := ⟨fun v G => ∃ GT : Hp, Same GT G ∧ Tabs T GT ∧ R.p v (mns G GT), fun v G G' s ⟨GT, h1, h2, h3⟩ => ⟨GT, h1.trans s, h2, R.mono _ _ _ (fun a o q => by
  obtain ⟨q1, q2⟩ := bu.mp q
  exact bu.mpr ⟨q1, s _ _ q2⟩) h3⟩⟩
section
variable {T : Tb} {H0 : Hp} {ρ : List Slot} {K : PySem.W.Frag} {Gw : WK} {α η S S1 R' : Type} {te : TE} {A : Abs} {it : Nat} {Ar : η → Abs} {t u w : TS} {Aq : R' → Abs} {Bs : S → List Slot}
theorem EnvG.back {σ : St} {H Hr G : Hp} {v : V} (E : EnvG T H0 σ (ρ.set it .no) H Hr G) (ht : ρ[it]? = some (.reg (zJ T))) (hv : σ[it]? = some (some v)) : EnvOk H0 σ ρ H Hr := by
  have hl : it < ρ.length := (List.getElem?_eq_some_iff.mp ht).1
  have ne : ∀ (j : Nat) (s : Slot), j ≠ it → ρ[j]? = some s → (ρ.set it .no)[j]? = some s := fun j s n h => by rw [List.getElem?_set_ne (Ne.symm n)]; exact h
  have own : ∀ (j : Nat) (B : AbsO), ρ[j]? = some (Slot.own B) → j ≠ it := fun j B h n => by subst n; rw [ht] at h; cases h
  refine ⟨E.e.base, E.e.sub, by have := E.e.len; rw [List.length_set] at this; exact this, fun j s hs => ?_, fun j k p B B' n hj hk h1 h2 => E.e.dis j k p B B' n (ne j _ (own j B hj) hj) (ne k _ (own k B' hk) hk) h1 h2, upG (fun _ _ => none) it G, fun j A h => ?_, fun j k A A' n h h' a o q => ?_, fun j k A B p h h' hs => ?_⟩
  · by_cases e : j = it
    · subst e
      rw [ht] at hs
      cases hs
      trivial
    · exact E.e.slot j s (ne j s e hs)
  · by_cases e : j = it
    · subst e
      rw [ht] at h
      cases h
      rw [li rfl]
      exact ⟨⟨v, hv, E.tG⟩, fun a o q => ⟨E.sG _ _ q, E.dr a o q, E.d0 a o q⟩⟩
    · exact absurd (ne j _ e h) (iw E.nr j A)
  · by_cases e : j = it
    · by_cases e2 : k = it
      · exact absurd (e.trans e2.symm) n
      · exact absurd (ne k _ e2 h') (iw E.nr k A')
    · exact absurd (ne j _ e h) (iw E.nr j A)
  · by_cases e : j = it
    · subst e
      rw [li rfl]
      exact E.dn k B p (ne k _ (own k B h') h') hs
    · exact absurd (ne j _ e h) (iw E.nr j A)
end
section
variable {P : Program} {w : World} {K : PySem.W.Frag} {mg : Str → Option Value} {base : Heap}
end
end Kj

namespace Kj
open PySem PySem.SeqAt PySem.W PyProof.Rows L2 LamX
abbrev F9 (a : Str) (p1 p2 p3 : Pos) (q : Nat) : Expr := .Subscript (.Name a p1) (.Constant (.int 0) q p2) p3
section
variable {prog : Program} {w : World} {A : Around} {E : Value → Shared → Prop} {s : Shared}
end
def Hb (K : PySem.W.Frag) (FO : Addr → Addr → HO) (qual : Str) : List V → List V → Hp → VK → Prop := fun vs zs H Q => ∃ (a f c' : Addr) (xs : List V) (ns : Nat → Int), vs = [V.ref a] ∧ zs = [V.ref f] ∧ SqL K H a xs ∧ 0 < xs.length ∧
  (∀ (i : Nat) x, xs[i]? = some x → ∃ t r, x = V.ref t ∧ SqT K H t (.int (ns i) :: r)) ∧ H f = some (FO f c') ∧ H c' = some (CodeO c' qual) ∧ ∀ x, xs[argBest (fun i j => decide (ns i < ns j)) (xs.length - 1)]? = some x → Q x H
section
variable {T : Tb} {H0 : Hp} {ρ : List Slot} {K : PySem.W.Frag} {γ : Type} [Enc γ] {te : TE}
def ka (xs : List (P2 Int γ)) (i : Nat) : Int := ((xs[i]?).map fun x => x.a).getD 0
def CU (xs : List (P2 Int γ)) : Option (P2 Int γ) := xs[argBest (fun i j => decide (ka xs i < ka xs j)) (xs.length - 1)]?
end
end Kj

namespace Kj
open PySem PySem.Spec PyProof.Rows L2
def G7 (P : Program) (w : World) (A : Around) (env : Env) (elt : Expr) (acc : Value) : Rn := fun s Po => wpAny (model P w) A (eval elt env) (fun x s1 => wpAny (model P w) A (call (.builtin "set.add") [acc, x]) (fun _ s2 => Po s2) FF s1) FF s
def GR (w : World) (te : TE) (D : Addr) : Bd := fun σ H Nx => te σ H fun y H1 => ∃ (k : Int) (S : Int → Bool) (n : Nat), y = .int k ∧ H1 D = some (SetO w D S n) ∧ n + 1 < scanBound ∧ Nx (upd H1 D (SetO w D (fun j => S j || decide (j = k)) (if S k = true then n else n + 1)))
def GZ (w : World) (wi : TI) (g : TG) (tt : TT) (te : TE) (us : List Nat) : TE := fun σ H Q => wi σ H fun J H1 => ∀ D, H1 D = none → LpR J g tt (GR w te D) us σ (upd H1 D (SetO w D (fun _ => false) 0)) fun H' => Q (.ref D) H'
section
variable {P : Program} {w : World} {A : Around} {env : Env} {elt t0 i0 : Expr} {f0 : List Expr} {scope : Scope} {pos : Pos} {it : Addr} {acc : Value}
end
section
variable {X : Cx}
end
section
variable {H0 : Hp} {ρ : List Slot} {K : PySem.W.Frag} {α : Type} {te : TE}
def An (g : α → Option Int) : List α → Option (List Int)
  | [] => some []
  | x :: xs => (g x).bind fun y => (An g xs).bind fun ys => some (y :: ys)
def CB (ns : List Int) : Option (List Int) := if ns.length < 64 then some (lG ns) else none
end
end Kj

namespace Kj
open PySem PySem.Spec PySem.W PyProof.Rows L2
def EF (te : TE) : TE := fun σ H Q => te σ H fun x H1 => ∃ (d : Addr) (kvs : List (Key × V)), x = .ref d ∧ H1 d = some (.dK kvs) ∧ ∀ p, H1 p = none → Q (.ref p) (upd H1 p (.lst (kvs.map (·.2))))
section
variable {X : Cx} {e : Expr} {te : TE} {p apos cpos pos : Pos}
end
abbrev Dl := List (P2 Str (List Int))
abbrev PL (K : PySem.W.Frag) (H : Hp) (L : List (Key × V)) (d : Dl) : Prop := Paired (fun (x : Key × V) (q : P2 Str (List Int)) => x.1 = Sum.inr q.a ∧ Dp K H x.2 (en q.b)) L d
theorem PL.mono {K : PySem.W.Frag} {H H' : Hp} {L : List (Key × V)} {d : Dl} (h : PL K H L d) (s : Same H H') : PL K H' L d := Paired.mapP h fun _ _ z => ⟨z.1, dE s _ _ z.2⟩
def oDl (K : PySem.W.Frag) (d : Dl) : AbsO := ⟨fun p o H => ∃ L, o = .dK L ∧ PL K H L d, fun _ _ _ _ s ⟨L, e, h⟩ => ⟨L, e, h.mono s⟩⟩
def ur (d : Dl) (k : Str) : Option (List Int) := (d.find? fun q => decide (q.a = k)).map P2.b
def CW (d : Dl) (k : Str) (v : List Int) : Dl := if (d.any fun q => decide (q.a = k)) = true then d.map (fun q => if q.a = k then ⟨q.a, v⟩ else q) else d ++ [⟨k, v⟩]
def GM (d : Dl) (k : Str) (z : List Int) : Option (List Int) := some ((ur d k).getD z)
def Gy {β : Type} (d : Dl) (k : Str) (v : List Int) (c : Dl → Option β) : Option β := if d.length < 100000 then c (CW d k v) else none
theorem PL.val {K : PySem.W.Frag} {H : Hp} {L : List (Key × V)} {d : Dl} (h : PL K H L d) (k : Str) : (valV L (Sum.inr k) = none ∧ ur d k = none) ∨ ∃ v x, valV L (Sum.inr k) = some v ∧ ur d k = some x ∧ Dp K H v (en x) := by
  induction h with
  | nil => exact .inl ⟨rfl, rfl⟩
  | @cons a b as bs h t ih =>
    by_cases e : b.a = k
    · refine .inr ⟨a.2, b.b, ?_, ?_, h.2⟩
      · exact valV_pos (by rw [h.1, e])
      · simp [ur, List.find?_cons, e]
    · have a1 : valV (a :: as) (Sum.inr k) = valV as (Sum.inr k) := valV_neg (by rw [h.1]; exact fun z => e (Sum.inr.inj z))
      have a2 : ur (b :: bs) k = ur bs k := by simp [ur, List.find?_cons, e]
      rw [a1, a2]
      exact ih
theorem PL.put {K : PySem.W.Frag} {H : Hp} {L : List (Key × V)} {d : Dl} (h : PL K H L d) {k : Str} {v : V} {x : List Int} (hv : Dp K H v (en x)) : PL K H (putK L (Sum.inr k) v) (CW d k x) := by
  have e : (L.any fun kv => decide (kv.1 = (Sum.inr k : Key))) = d.any fun q => decide (q.a = k) := by
    induction h with
    | nil => rfl
    | @cons a b as bs h t ih =>
      rw [List.any_cons, List.any_cons, ih, h.1]
      congr 1
      simp
  unfold putK CW
  rw [e]
  split
  · clear e
    rename_i q
    clear q
    induction h with
    | nil => exact .nil
    | @cons a b as bs h t ih =>
      rw [List.map_cons, List.map_cons]
      refine .cons ?_ ih
      by_cases e : b.a = k
      · rw [if_pos (show a.1 = Sum.inr k by rw [h.1, e]), if_pos e]
        exact ⟨h.1, hv⟩
      · rw [if_neg (fun z => e (Sum.inr.inj (h.1.symm.trans z))), if_neg e]
        exact h
  · exact Paired.snoc h ⟨rfl, hv⟩
section
variable {Gw : WK} {H0 : Hp} {ρ ρ' : List Slot} {K : PySem.W.Frag} {f fa fb : Bool} {ta tb te : TE} {S R : Type} {A : R → Abs} {B : S → List Slot} {u : TS}
end
end Kj

namespace Kj
open PySem L2 LamX
section
variable {T : Tb} {H0 : Hp} {ρ : List Slot} {K : PySem.W.Frag} {f fa fb fc fd fw : Bool} {α β γ δ ε : Type} {ta tb tc td te : TE} {A : α → Abs} {B : β → Abs} {C : γ → Abs} {D : δ → Abs} {E' : ε → Abs} {Ex : XK} {ma : Option α} {mb : Option β} {md : Option δ} {me : Option ε}
end
end Kj

namespace Kj
open PySem L2 LamX
section
variable {X : Cx} {pins : List (Addr × Obj)} {σ : St} {H : Hp} {s : Shared}
end
section
variable {P : Program} {w : World} {K : PySem.W.Frag} {mg : Str → Option Value} {base : Heap}
end
end Kj

namespace Kj
open PySem L2 LamX
def aWP (K : PySem.W.Frag) {γ : Type} [Enc γ] (x : P2 Int (List γ)) : Abs := ⟨fun v G => ∃ t p, v = .ref t ∧ G t = some (.tup [.int x.a, .ref p]) ∧ (aEo K x.b).p (.ref p) G, fun v G G' s ⟨t, p, h1, h2, h3⟩ => ⟨t, p, h1, s _ _ h2, (aEo K x.b).mono _ _ _ s h3⟩⟩
section
variable {T : Tb} {Gw : WK} {H0 H Hr : Hp} {σ : St} {ρ : List Slot} {K : PySem.W.Frag} {f fa fb : Bool} {ta tb te : TE} {γ S R' : Type} [Enc γ] {it : Nat} {Aq : R' → Abs} {Bs : S → List Slot} {u : TS}
theorem EnvOk.cut {i : Nat} {A : Abs} {p : Addr} {o o' : HO} (E : EnvOk H0 σ ρ H Hr) {Gs : Nat → Hp} (r1 : ∀ (i : Nat) (A : Abs), ρ[i]? = some (Slot.reg A) → (∃ v, σ[i]? = some (some v) ∧ A.p v (Gs i)) ∧ ∀ (a : Addr) (o : HO), Gs i a = some o → H a = some o ∧ Hr a = none ∧ H0 a = none)
    (r2 : ∀ (i j : Nat) (A A' : Abs), i ≠ j → ρ[i]? = some (Slot.reg A) → ρ[j]? = some (Slot.reg A') → ∀ (a : Addr) (o : HO), Gs i a = some o → Gs j a = none)
    (r3 : ∀ (i j : Nat) (A : Abs) (B : AbsO) (p : Addr), ρ[i]? = some (Slot.reg A) → ρ[j]? = some (Slot.own B) → σ[j]? = some (some (V.ref p)) → Gs i p = none) (hi : ρ[i]? = some (.reg A)) (hp : Gs i p = some o) : EnvOk H0 σ (ρ.set i .no) (upd H p o') Hr := by
  obtain ⟨_, hG⟩ := r1 i A hi
  obtain ⟨g1, g2, g3⟩ := hG p o hp
  have old : ∀ (j : Nat) (s : Slot), (ρ.set i .no)[j]? = some s → s = .no ∨ (j ≠ i ∧ ρ[j]? = some s) := fun j s h => by
    rcases c8 h with ⟨_, e⟩ | ⟨n, e⟩
    · exact .inl e
    · exact .inr ⟨n, e⟩
  refine ⟨fun a u q => by rw [upd_ne (ne_of_none q g3)]; exact E.base _ _ q, fun a u q => by rw [upd_ne (ne_of_none q g2)]; exact E.sub _ _ q, by simp [E.len], fun j sl h => ?_, fun j k q B B' hjk hj hk ej ek => ?_, Gs, fun j A' h => ?_, fun j k A3 A4 n h h' a o2 q => ?_, fun j k A3 B q h h' hs => ?_⟩
  · rcases old j sl h with e | ⟨n, e⟩
    · subst e; trivial
    · have q := E.slot j sl e
      cases sl with
      | no => trivial
      | reg A => trivial
      | dat A => exact q
      | new A => exact q
      | own B =>
        obtain ⟨p', u2, q1, q2, q3, q4, q5⟩ := q
        have ne : p' ≠ p := fun z => by
          subst z
          have := r3 i j A B p' hi e q1
          rw [hp] at this; cases this
        exact ⟨p', u2, q1, q2, q3, by rw [upd_ne ne]; exact q4, q5⟩
  · rcases old j _ hj with e | ⟨_, e⟩
    · cases e
    · rcases old k _ hk with e' | ⟨_, e'⟩
      · cases e'
      · exact E.dis j k q B B' hjk e e' ej ek
  · rcases old j _ h with e | ⟨n, e⟩
    · cases e
    · obtain ⟨b1, b2⟩ := r1 j A' e
      refine ⟨b1, fun a u q => ⟨?_, (b2 a u q).2⟩⟩
      have ne : a ≠ p := fun z => by
        subst z
        have := r2 i j A A' (Ne.symm n) hi e _ _ hp
        rw [q] at this; cases this
      rw [upd_ne ne]; exact (b2 a u q).1
  · rcases old j _ h with e | ⟨_, e⟩
    · cases e
    · rcases old k _ h' with e' | ⟨_, e'⟩
      · cases e'
      · exact r2 j k A3 A4 n e e' a o2 q
  · rcases old j _ h with e | ⟨_, e⟩
    · cases e
    · rcases old k _ h' with e' | ⟨_, e'⟩
      · cases e'
      · exact r3 j k A3 B q e e' hs
end
end Kj
namespace Kj
open PySem L2
end Kj

namespace Kj
open PySem PySem.SeqAt PySem.W PyProof.Rows L2
def Hd (K : PySem.W.Frag) : V → List V → Hp → VK → Prop := fun x vs H Q => ∃ (l : Addr) (v : V) (d : PyData) (ds : List PyData), x = .ref l ∧ vs = [v] ∧ Dp K H (.ref l) (.list ds) ∧ Dp K H v d ∧ d.plain = true ∧ PyData.plainAll ds = true ∧ d.depth ≤ 60 ∧ Q (.int ((ds.countP fun z => PyData.eqv z d : Nat) : Int)) H
def GP {α : Type} [DecidableEq α] (xs : List α) (x : α) : Option Int := some ((xs.countP fun y => decide (y = x) : Nat) : Int)
section
variable {H0 : Hp} {ρ : List Slot} {K : PySem.W.Frag} {fa fb : Bool} {ta te : TE} {α : Type} [Enc α] [DecidableEq α]
end
end Kj
namespace Kj
open PySem L2 LamX
end Kj
namespace Kj
open PySem L2
end Kj

namespace Kj
open PySem L2
def jZ (qJ : (List (P2 Int (List (P2 (Tp Str) (P4 Int Int Int Int)))))) : Option (P2 Int (List (P2 (Tp Str) (P4 Int Int Int Int)))) := ba (S := Unit) (R := (P2 Int (List (P2 (Tp Str) (P4 Int Int Int Int))))) 
  (b1 (fun zR => (b1 (fun r => some (Fl.rt r)) (b2 mk2 (b1 Ge (b1 (lcM fun x5 => lcE (some true) ((some x5).map P2.a)) (some qJ))) (some zR))))
    (b1 lim (b1 (lS fun x1 => a9 (some true) (b1 (lS fun x2 => a9 (some true) (b1 wG (some x2)) (some [])) ((some x1).map P2.b)) (some [])) (some qJ))))
def pq (aI : DealT) (bL : (List Int)) (cg : Int) : Option (List (List Int)) := ba (S := Unit) (R := (List (List Int))) 
  (b1 (fun kl => (ah (S1 := Dl) (b1 (fun xs => cD (fun x2 s1 => (b1 (fun oN => (b2 (fun v z => Gy s1 z v fun kl => (some (Fl.nx kl))) (b2 dw (b2 (GM s1) (some oN) (b1 aK (some ([] : List Int)))) (b1 aK (b2 ar (some x2) (some ([] : List Int))))) (some oN)))
    (b2 atI (b2 bM (b1 bA (some aI) ) (some x2)) (some cg)))) xs kl) (some bL)) fun s1 => (b1 (fun r => some (Fl.rt r)) (some (s1.map P2.b))))) (some ([] : Dl)))
def rR : DealT → (List Int) → Int → Option (P2 Int (List (P2 (Tp Str) (P4 Int Int Int Int)))) := fun _ _ _ => none
def qu (aI : DealT) (bL : (List Int)) (cg : Int) (dF : Int) : Option (P2 Int (List (P2 (Tp Str) (P4 Int Int Int Int)))) := ba (S := Unit) (R := (P2 Int (List (P2 (Tp Str) (P4 Int Int Int Int))))) 
  (b1 (fun fR => (b1 (fun oO => (b1 (fun dX => (b1 (fun sL => (b1 (fun r => some (Fl.rt r)) (b1 jZ (b2 dw (b1 aK (b2 ar (some sL) (some ([] : List (P2 Int (List (P2 (Tp Str) (P4 Int Int Int Int)))))))) (b1 (lcM fun x6 => lcE (some true) (b3 rR (some aI) (some x6) (b2 cN (some cg) (some (1 : Int))))) (b3 pq (some aI) (some oO) (some cg)))))))
    (b2 mk2 (b2 fE (some cg) (b1 b7 (some fR))) (b1 (lcM fun x5 => lcE (some true) (b2 mk2 (some dX) (some x5))) (b2 hO (some aI) (some fR))))))
    (b1 oU (b3 cM (b2 bM (b1 bA (some aI) ) (b2 atI (some fR) (some (0 : Int)))) ce (bN (some cg))))))
    (b1 (lcM fun x3 => lcE (b2 jW (some x3) (some fR)) (some x3)) (some bL))))
    (b1 (lcM fun x1 => lcE (b2 eqM (((b2 cY (some aI) (some x1)).bind id).map P3.b) (some dF)) (some x1)) (some bL)))
def rQ (aI : DealT) (bL : (List Int)) (cg : Int) : Option (P2 Int (List (P2 (Tp Str) (P4 Int Int Int Int)))) := ba (S := Unit) (R := (P2 Int (List (P2 (Tp Str) (P4 Int Int Int Int))))) 
  (b1 (fun cj => (b1 (fun r => some (Fl.rt r)) (b1 CU (b1 (lcM fun x2 => lcE (some true) (b4 qu (some aI) (some bL) (some cg) (some x2))) (some cj)))))
    (b1 CB (b1 (An fun x1 => (((b2 cY (some aI) (some x1)).bind id).map P3.b)) (some bL))))
def qt (aI : DealT) (bL : (List Int)) (cg : Int) (dF : Int) : Option (P2 Int (List (P2 (Tp Str) (P4 Int Int Int Int)))) := ba (S := Unit) (R := (P2 Int (List (P2 (Tp Str) (P4 Int Int Int Int))))) 
  (b1 (fun fR => (b1 (fun oO => (b1 (fun dX => (b1 (fun sL => (b1 (fun r => some (Fl.rt r)) (b1 jZ (b2 dw (b1 aK (b2 ar (some sL) (some ([] : List (P2 Int (List (P2 (Tp Str) (P4 Int Int Int Int)))))))) (b1 (lcM fun x6 => lcE (some true) (b3 rQ (some aI) (some x6) (b2 cN (some cg) (some (1 : Int))))) (b3 pq (some aI) (some oO) (some cg)))))))
    (b2 mk2 (b2 fE (some cg) (b1 b7 (some fR))) (b1 (lcM fun x5 => lcE (some true) (b2 mk2 (some dX) (some x5))) (b2 hO (some aI) (some fR))))))
    (b1 oU (b3 cM (b2 bM (b1 bA (some aI) ) (b2 atI (some fR) (some (0 : Int)))) ce (bN (some cg))))))
    (b1 (lcM fun x3 => lcE (b2 jW (some x3) (some fR)) (some x3)) (some bL))))
    (b1 (lcM fun x1 => lcE (b2 eqM (((b2 cY (some aI) (some x1)).bind id).map P3.b) (some dF)) (some x1)) (some bL)))
def rP (aI : DealT) (bL : (List Int)) (cg : Int) : Option (P2 Int (List (P2 (Tp Str) (P4 Int Int Int Int)))) := ba (S := Unit) (R := (P2 Int (List (P2 (Tp Str) (P4 Int Int Int Int))))) 
  (b1 (fun cj => (b1 (fun r => some (Fl.rt r)) (b1 CU (b1 (lcM fun x2 => lcE (some true) (b4 qt (some aI) (some bL) (some cg) (some x2))) (some cj)))))
    (b1 CB (b1 (An fun x1 => (((b2 cY (some aI) (some x1)).bind id).map P3.b)) (some bL))))
def qr (aI : DealT) (bL : (List Int)) (cg : Int) (dF : Int) : Option (P2 Int (List (P2 (Tp Str) (P4 Int Int Int Int)))) := ba (S := Unit) (R := (P2 Int (List (P2 (Tp Str) (P4 Int Int Int Int))))) 
  (b1 (fun fR => (b1 (fun oO => (b1 (fun dX => (b1 (fun sL => (b1 (fun r => some (Fl.rt r)) (b1 jZ (b2 dw (b1 aK (b2 ar (some sL) (some ([] : List (P2 Int (List (P2 (Tp Str) (P4 Int Int Int Int)))))))) (b1 (lcM fun x6 => lcE (some true) (b3 rP (some aI) (some x6) (b2 cN (some cg) (some (1 : Int))))) (b3 pq (some aI) (some oO) (some cg)))))))
    (b2 mk2 (b2 fE (some cg) (b1 b7 (some fR))) (b1 (lcM fun x5 => lcE (some true) (b2 mk2 (some dX) (some x5))) (b2 hO (some aI) (some fR))))))
    (b1 oU (b3 cM (b2 bM (b1 bA (some aI) ) (b2 atI (some fR) (some (0 : Int)))) ce (bN (some cg))))))
    (b1 (lcM fun x3 => lcE (b2 jW (some x3) (some fR)) (some x3)) (some bL))))
    (b1 (lcM fun x1 => lcE (b2 eqM (((b2 cY (some aI) (some x1)).bind id).map P3.b) (some dF)) (some x1)) (some bL)))
def rO (aI : DealT) (bL : (List Int)) (cg : Int) : Option (P2 Int (List (P2 (Tp Str) (P4 Int Int Int Int)))) := ba (S := Unit) (R := (P2 Int (List (P2 (Tp Str) (P4 Int Int Int Int))))) 
  (b1 (fun cj => (b1 (fun r => some (Fl.rt r)) (b1 CU (b1 (lcM fun x2 => lcE (some true) (b4 qr (some aI) (some bL) (some cg) (some x2))) (some cj)))))
    (b1 CB (b1 (An fun x1 => (((b2 cY (some aI) (some x1)).bind id).map P3.b)) (some bL))))
def GO (aI : DealT) (a_ : (List Int)) : Option (P2 Int (List (P2 (Tp Str) (P4 Int Int Int Int)))) := ba (S := Unit) (R := (P2 Int (List (P2 (Tp Str) (P4 Int Int Int Int))))) 
  (b1 (fun kl => (b1 (fun r => some (Fl.rt r)) (b1 jZ (b1 (lcM fun x3 => lcE (some true) (b3 rO (some aI) (some x3.a) (some x3.b))) (some kl)))))
    (b1 (lcM fun x1 => lcE (some true) (b2 mk2 (some x1.b) (b1 yh (some x1.a)))) (b2 tN (some aI) (some a_))))
def tP (aa : (List (List Str))) (aj : (List (List (List Int)))) (bI : (List (P2 (Tp Str) (P4 Int Int Int Int)))) (bz : Int) : Option (Option Int) := ba (S := Unit) (R := (Option Int)) 
  (b1 (fun lE => (ah (S1 := (Option Int)) (b1 (fun xs => cD (fun x2 s1 => (b1 (fun bc => (ah (S1 := (Option Int)) (a9 (fG (b2 eqM (b3 cM (b2 atI (some aa) (some bz)) ce (bN (some bc))) (b1 kC (some x2.a))) (b2 inM (some bz) (b2 lj (some aj) (some x2.b))))
    (ah (S1 := (Option Int)) (a9 (orM ((some s1).map Option.isNone) (b2 ltI (some bc) ((some s1).bind id)))
    (b1 (fun lE => (some (Fl.nx lE)))
    ((some bc).map some))
    (some (Fl.nx s1))) fun s8 => (some (Fl.nx s8)))
    (some (Fl.nx s1))) fun s7 => (some (Fl.nx s7))))
    (b1 yh (some x2.a)))) xs lE) (some bI)) fun s1 => (b1 (fun r => some (Fl.rt r)) (some s1))))
    (some (none : (Option Int))))
def xb (aa : (List (List Str))) (aj : (List (List (List Int)))) (aJ : (List Int)) (bI : (List (P2 (Tp Str) (P4 Int Int Int Int)))) : Option Int := ba (S := Unit) (R := Int) 
  (b1 (fun nL => (ah (S1 := Unit) (a9 (dC (b1 nH (b1 (lcM fun x2 => lcE (some true) (b2 eqM (b2 GP (some nL) (some x2)) (some (1 : Int)))) (some nL))))
    (b1 (fun r => some (Fl.rt r)) (b1 jY (some (1 : Int))))
    (some (Fl.nx ()))) fun s3 => (ah (S1 := Unit) (a9 (orM (b2 geI (b4 kF (some aa) (some aj) (some aJ) (some bI)) (some (0 : Int))) ((b4 rV (some aa) (some aj) (some aJ) (some bI)).map Option.isSome))
    (b1 (fun r => some (Fl.rt r)) (b1 jY (some (1 : Int))))
    (some (Fl.nx ()))) fun s4 => (b1 (fun lB => (ah (S1 := Int) (b1 (fun xs => cD (fun x6 s5 => (ah (S1 := Int) (a9 (fG (b2 inM (some x6) (some aJ)) (b2 geI (b2 eW (some aj) (some x6)) (some (0 : Int))))
    (b1 (fun bc => (ah (S1 := Unit) (a9 ((some bc).map Option.isNone)
    (b1 (fun r => some (Fl.rt r)) (b1 jY (some (1 : Int))))
    (some (Fl.nx ()))) fun s12 => (b1 (fun y => (fun lB => (some (Fl.nx lB))) ((fun i j => i + j) s5 y)) ((some bc).bind id))))
    (b4 tP (some aa) (some aj) (some bI) (some x6)))
    (some (Fl.nx s5))) fun s11 => (some (Fl.nx s11)))) xs lB) (b1 rngM (b1 b7 (some aa)))) fun s5 => (b1 (fun r => some (Fl.rt r)) (some s5))))
    (some (0 : Int))))))
    (b1 (lcM fun x1 => lcE (some true) (some x1.a)) (some bI)))
end Kj

namespace Kj
open PySem L2 PySem.HandSPX
def wM2 (K : PySem.W.Frag) (Wout : WX) (D : Ends) (c1 c2 : Value) (ts : Addr → Value → Option Addr → TS) : WX := fun cls d σ H => ∃ b, PySem.W.exmAny K cls [c1, c2] = some b ∧ (b = true → ∀ a, H a = none → ts a cls d D σ H) ∧ (b = false → Wout cls d σ H)
section
variable {X : Cx} {pins : List (Addr × Obj)} {σ : St} {H : Hp} {sI : Shared} {B : Heap} {a : Addr} {cls : Value} {d : Option Addr} {Wout : WX} {D : Ends}
end
def GY (K : PySem.W.Frag) (Wout : WX) (c1 c2 : Value) (ts : Addr → Value → Option Addr → TS) (tb : WX → TS) : TS := fun D σ H => tb (wM2 K Wout D c1 c2 ts) D σ H
def HI {α S R : Type} (l : List Str) (c1 c2 : Str) (p : Option (Fl S R)) (ok : α → Option (Fl S R)) (m : Option (Rs α)) : Option (Fl S R) := m.bind fun r => match r with | .ok x => ok x | .ex e => if l.contains e.name = true then (if (iG e.name c1 || iG e.name c2) = true then p else none) else none
section
variable {G : WK} {H0 : Hp} {ρ : List Slot} {f : Bool} {α S S1 R : Type} {Ax : α → Abs} {A : R → Abs} {B : S → List Slot} {B1 : S1 → List Slot} {u : TS}
end
end Kj

namespace Kj
open PySem L2 LamX
section
open MeetsSeq PySem.AutoSeq1
end
def Hf (K : PySem.W.Frag) : R2 := fun x y H Q => ∃ a b xs ys, x = .ref a ∧ y = .ref b ∧ SqT K H a xs ∧ SqT K H b ys ∧ xs.length + ys.length ≤ sizeLine ∧ (xs = [] → Q (.ref b) H) ∧ (xs ≠ [] → ys = [] → Q (.ref a) H) ∧ (xs ≠ [] → ys ≠ [] → ∀ p, H p = none → Q (.ref p) (upd H p (.tup (xs ++ ys))))
def Hx {α : Type} (a b : Tp α) : Option (Tp α) := if a.items.length + b.items.length ≤ 100000 then some ⟨a.items ++ b.items⟩ else none
section
variable {H0 : Hp} {ρ : List Slot} {K : PySem.W.Frag} {f : Bool} {ta tb te : TE} {α : Type}
end
def exO {α : Type} (m : Option (Rs α)) : Option (Rs α) := m.bind fun r => match r with | .ok _ => none | .ex e => some (.ex e)
@[simp] theorem okO_ok {α : Type} {x : α} : okO (some (Rs.ok x)) = some x := rfl
def G5 (T : Tb) (S : jo) : Sp := fun vs H Q E => ∃ As O, S As O ∧ match O with
  | .ret R => ∃ G, AllP As vs (mns H G) ∧ Same G H ∧ Tabs T G ∧ ∀ v H' G', GrownW T G H G' → Same G' H' → Same (ovl G G' H) H' → R.p v (mns (mns H' (mns H G)) G') → Q v H'
  | .exc X => AllP As vs H ∧ ∀ cls d H', Same H H' → X cls d H' → E cls d H'
section
variable {T : Tb} {W : WX} {H0 : Hp} {ρ ρ' : List Slot} {K : PySem.W.Frag} {f fa fb fc fd fe : Bool} {te ta tb tc td tf : TE} {X : XA} {α β γ δ ε ζ : Type} {A : α → Abs} {B : β → Abs} {C : γ → Abs} {D : δ → Abs} {E' : ε → Abs} {G' : ζ → Abs}
end
section
variable {T : Tb} {H0 : Hp} {ρ : List Slot} {K : PySem.W.Frag} {Gw : WK} {α η S S1 R R' : Type} {te : TE} {it : Nat} {Ax : α → Abs} {A : R → Abs} {u : TS} {Aq : R' → Abs} {Bs : S → List Slot} {B1 : S1 → List Slot}
end
section
variable {P : Program} {w : World} {K : PySem.W.Frag} {mg : Str → Option Value} {base : Heap}
def F_ (T : Tb) (n it : Nat) (E : XK) (t : TS) (As : List Abs) : Out → Prop
  | .ret R => (∀ H0, DS ⟨fun cls d _ H => E cls d H, fun _ _ _ _ => False⟩ H0 ((As.map Slot.dat ++ List.replicate (n - As.length) Slot.no).set it (.reg (zJ T))) t (fun ρ' => ρ'[it]? = some (.reg (zJ T)) ∧ g9 (ρ'.set it .no) = true ∧ ∀ G, R.p .non G) (aT T R)) ∨ (∀ H0, DS ⟨fun cls d _ H => E cls d H, fun _ _ _ _ => False⟩ H0 (As.map Slot.dat ++ List.replicate (n - As.length) Slot.no) t (fun _ => ∀ G, R.p .non G) R)
  | .exc X => ∀ H0, DS ⟨fun cls d _ H => E cls d H, fun _ => X⟩ H0 (As.map Slot.dat ++ List.replicate (n - As.length) Slot.no) t (fun _ => False) aNo
end
section
variable {T : Tb} {W : WX} {H0 : Hp} {ρ : List Slot} {K : PySem.W.Frag} {t : TS} {it : Nat} {S : Type} {B : S → List Slot} {α β R : Type}
end
section
variable {T : Tb} {H0 : Hp} {ρ : List Slot} {K : PySem.W.Frag} {te : TE} {it : Nat} {f : Bool} {α : Type} {A : α → Abs}
end
theorem xQ {X : Cx} {body : List Stmt} {h₀ : ExceptHandler} {hds : List ExceptHandler} {l : HdL} {pos : Pos} {tb : WX → TS} {Wout : WX} (hs : X.stack = X.env :: X.outer) (hf : X.env.frame = some X.env.locals) (tk : Takes X Wout)
    (hb : ∀ (W : WX) (pn : List (Addr × Obj)) (xe : Value → Shared → Prop), Takes (X.tr pn xe) W → PassesOwn (model X.prog X.w) X.A X.env xe → PSs (X.tr pn xe) body (tb W)) (hh : HdsN X (h₀ :: hds) l) :
    PS X (.Try body (h₀ :: hds) [] [] pos) (xw X.K Wout l tb) := z6 hs hf tk hb hh
end Kj

namespace Kj
open PySem L2
section
variable {P : Program} {w : World} {K : PySem.W.Frag} {mg : Str → Option Value} {base : Heap}
def GW (P : Program) (w : World) (K : PySem.W.Frag) (mg : Str → Option Value) (base : Heap) (name : Str) (k : Nat) (ps : List Str) (sp : Sp) : Prop :=
  ∃ f fd, mg name = some (.ref f) ∧ PySem.W.keepIn K (.ref f) = true ∧ Binds K fd ps [] ∧ FnOk P w K mg base (L2N.CX P w) k f fd ps sp
end
end Kj

namespace Kj
open PySem L2
def HC (P : Program) (w : World) (K : PySem.W.Frag) (mg : Str → Option Value) (base : Heap) (x : Str) (C : Addr) (k : Nat) (ps : List Str) (sp : Sp) : Prop :=
  ∃ f fd, mg x = some (.ref C) ∧ OexC K C ∧ PySem.W.findIn K (.ref C) "__init__" = some (some (.ref f)) ∧ PySem.W.typeIn K (.ref f) = some (.type "function") ∧ Binds K fd ps [] ∧ L2H.FnH P w K mg base CX0 k f fd ps sp
def qf (S : List Abs → OutI → Prop) (C : Addr) : Sp := fun vs H Q E => ∃ x dx As O rest, vs = .ref x :: rest ∧ H x = some (.ins C dx []) ∧ S As O ∧ AllP As rest (rm H x) ∧ match O with
  | .ret fas => ∀ H' fs, Same (rm H x) H' → H' x = some (.ins C dx fs) → FAll fas fs (mns H' H) → Q .non H'
  | .exc X => ∀ cls d H', Same (rm H x) H' → X cls d H' → E cls d H'
def HD (P : Program) (w : World) (K : PySem.W.Frag) (mg : Str → Option Value) (base : Heap) (x : Str) (C : Addr) (k : Nat) (ps : List Str) (sp : Sp) : Prop :=
  ∃ f fd, Mk K C f ∧ mg x = some (.ref C) ∧ Binds K fd ps [] ∧ FnOk P w K mg base (L2N.CX P w) k f fd ps sp
section
variable {P : Program} {w : World} {K : PySem.W.Frag} {mg : Str → Option Value} {base : Heap}
theorem wO {CX : CXT} {x qual : Str} {st : Stmt} {f C : Addr} {fd : FuncData} {N ps : List Str} {p0 : Str} {k : Nat} {S : List Abs → OutI → Prop} (F : FnP K x qual st f fd) (Sc : FnScope N (p0 :: ps) (defScope st)) (len : ∀ As O, S As O → As.length = ps.length)
    (body : ∀ (cdv : Value) (A : Around) (outer : List Env) (s : Shared) (H : Hp) (E : XK), Room k (A.deeper (PyProof.Rows.envOfC qual (defScope st) s.heap.objs.size f cdv)) →
      ∃ t, PSs (cxOf CX P w K mg base N qual (defScope st) f cdv A outer s H E) (defBody st) t ∧ ∀ H0 xo dx As O, S As O → DS ⟨fun cls d _ H => E cls d H, BY O⟩ H0 (.own (qo xo C dx []) :: (As.map Slot.dat ++ List.replicate (N.length - (As.length + 1)) Slot.no)) t (BZ xo C dx O) aNo) : FnOk P w K mg base CX (k + 1) f fd (p0 :: ps) (qf S C) := by
  refine F.ok Sc (fun vs H Q E h => ?_) (fun cdv A outer s H vs Q E hr h => ?_)
  · obtain ⟨x, dx, As, O, rest, rfl, _, h1, h2, _⟩ := h
    simp [← h2.length, len As O h1]
  · obtain ⟨x, dx, As, O, rest, rfl, hx, h1, h2, h3⟩ := h
    obtain ⟨t, p, d⟩ := body cdv A outer s H E hr
    have e := gW (n := N.length - (As.length + 1)) h2
    have lift : Same (rm H x) H := fun a o q => (k8 q).1
    have E1 := e.consOwn (B := qo x C dx []) (tq _ _) (tp _ _) z3 hx lift (fun G => ⟨rfl, [], rfl, .nil⟩)
    refine ⟨t, p, d (rm H x) x dx As O h1 _ H (rm H x) _ ?_ (fun ρ' σ' H' Hr' n E' s => ?_) (fun v H' s _ r => r.elim) (fun ρ' σ' H' Hr' cls dd z E' s => ?_)⟩
    · unfold L2.start
      rw [List.map_cons, List.length_cons, ← h2.length]
      exact E1
    · cases O with
      | exc X => exact n.elim
      | ret fas =>
        obtain ⟨rest', rfl⟩ := n
        obtain ⟨p, o, e1, e2, e3, e4, rfl, fs, rfl, q⟩ := E'.slot 0 _ rfl
        refine h3 H' fs E'.base e4 (q.mono fun a o z => ?_)
        obtain ⟨z1, z2⟩ := bu.mp z
        refine bu.mpr ⟨?_, E'.sub _ _ z2⟩
        have ne : a ≠ p := fun z => by subst z; rw [e3] at z2; cases z2
        rw [jC ne] at z1
        exact z1
    · cases O with
      | ret fas => exact z.elim
      | exc X => exact h3 cls dd H' E'.base z
end
section
variable {W : WX} {H0 : Hp} {ρ ρ' : List Slot} {K : PySem.W.Frag} {f fa : Bool} {te t' ta tb tc td : TE} {X : XA} {α β γ δ ε S S1 R : Type} {A1 : α → Abs} {C : Addr} {O : γ → List (Str × Abs)}
theorem zl {S : List Abs → OutI → Prop} {As : List Abs} {fas : List (Str × Abs)} {t : TA} {Ex : St → XK} (bo : Bo H0 ρ ρ') (ha : DA H0 ρ' t false As) (hs : S As (.ret fas)) : DE H0 ρ (m7 C (qf S C) Ex t) f (kf C fas) := fun σ H Hr Q E k => by
  obtain ⟨Hr', s, E'⟩ := bo σ H Hr E
  refine ha σ H Hr' _ E' fun vs H1 Hr1 x1 a1 x dx hx hdx hne => ?_
  have lift : Same H1 (rm (upd (upd H1 dx (.own x)) x (.ins C dx [])) x) := fun a o q => by
    have n1 : a ≠ x := ne_of_none q hx
    have n2 : a ≠ dx := ne_of_none q hdx
    rw [jC n1, upd_ne n1, upd_ne n2]; exact q
  refine ⟨x, dx, As, .ret fas, vs, rfl, upd_same, hs, a1.mono (x1.s.trans lift), fun H' fs s' hx' hf => ⟨rfl, ?_⟩⟩
  have s2 : Same H1 H' := lift.trans s'
  refine k (.ref x) H' _ (Ext.call E.sub x1.h s2) ?_
  have nw : Same (mns H' (upd (upd H1 dx (.own x)) x (.ins C dx []))) (mns H' H1) := fun a o q => by
    obtain ⟨q1, q2⟩ := bu.mp q
    refine bu.mpr ⟨?_, q2⟩
    by_cases e1 : a = x
    · subst e1; rw [upd_same] at q1; cases q1
    · rw [upd_ne e1] at q1
      by_cases e2 : a = dx
      · subst e2; rw [upd_same] at q1; cases q1
      · rw [upd_ne e2] at q1; exact q1
  have new : (kf C fas).p (.ref x) (mns (nN Hr H1 H') H0) := ⟨x, dx, fs, rfl, iQ E.base E.sub x1.h _ _ (bu.mpr ⟨hx, hx'⟩), hf.mono (nw.trans (iQ E.base E.sub x1.h))⟩
  cases f
  · exact (kf C fas).mono _ _ _ jg new
  · exact new
theorem xH {S : List Abs → OutI → Prop} {As : List Abs} {t : TA} (bo : Bo H0 ρ ρ') (ha : DA H0 ρ' t false As) (hs : S As (.exc X)) : RE W H0 ρ (m7 C (qf S C) (WE W) t) X := fun σ H Hr Q E k => by
  obtain ⟨Hr', s, E'⟩ := bo σ H Hr E
  refine ha σ H Hr' _ E' fun vs H1 Hr1 x1 a1 x dx hx hdx hne => ?_
  have lift : Same H1 (rm (upd (upd H1 dx (.own x)) x (.ins C dx [])) x) := fun a o q => by
    have n1 : a ≠ x := ne_of_none q hx
    have n2 : a ≠ dx := ne_of_none q hdx
    rw [jC n1, upd_ne n1, upd_ne n2]; exact q
  exact ⟨x, dx, As, .exc X, vs, rfl, upd_same, hs, a1.mono (x1.s.trans lift), fun cls d H' s' q => k cls d H' _ (Ext.call E.sub x1.h (lift.trans s')) q⟩
theorem wX {F : α → Option (Rs γ)} {ma : Option α} (bo : Bo H0 ρ ρ') (h1 : DM H0 ρ' ta fa A1 ma) : DMx W K H0 ρ (m7 C (qf (ui K A1 O F) C) (WE W) (tCons ta tNil)) true (fun c => kf C (O c)) (b1 F ma) :=
  ⟨fun x e => by
    obtain ⟨a, e1, h⟩ := cC e
    exact zl bo (fS (h1 a e1) ja) ⟨a, _, rfl, h, rfl⟩, fun x e => by
    obtain ⟨a, e1, h⟩ := cC e
    exact xH bo (fS (h1 a e1) ja) ⟨a, _, rfl, h, rfl⟩⟩
end
end Kj

namespace Kj
open PySem L2
def aOs (K : PySem.W.Frag) {α : Type} (A : α → Abs) : Option α → Abs
  | none => aE K ()
  | some x => A x
section
variable {W : WX} {H0 : Hp} {ρ : List Slot} {K K' : PySem.W.Frag} {f : Bool} {te : TE} {α : Type} {A : α → Abs}
end
section
variable {G : WK} {H0 : Hp} {ρ : List Slot} {f : Bool} {α S S1 R : Type} {Ax : α → Abs} {A : R → Abs} {B : S → List Slot} {B1 : S1 → List Slot} {u : TS}
end
end Kj

namespace Kj
open PySem L2
theorem eZ {H H' : Hp} (s : Same H H') {a : Addr} {u : HO} (h : Rd H a u) : Rd H' a u := by
  rcases h with h | ⟨o, h⟩
  · exact .inl (s _ _ h)
  · exact .inr ⟨o, s _ _ h⟩
def dAs {α : Type} (A : α → Abs) (d : List (Str × α)) : List (Str × Abs) := d.map fun x => (x.1, A x.2)
def aDs {α : Type} (A : α → Abs) (d : List (Str × α)) : Abs := ⟨fun v H => ∃ a fs, v = .ref a ∧ Rd H a (.dK (f9 fs)) ∧ FAll (dAs A d) fs H, fun v _ _ s ⟨a, fs, e, h, q⟩ => ⟨a, fs, e, eZ s h, q.mono s⟩⟩
theorem jk {α : Type} {A : α → Abs} {H : Hp} {k : Str} : ∀ {d : List (Str × α)} {fs : List (Str × V)}, FAll (dAs A d) fs H → (∃ x v, d.lookup k = some x ∧ fs.lookup k = some v ∧ (A x).p v H) ∨ (d.lookup k = none ∧ fs.lookup k = none)
  | [], _, .nil => .inr ⟨rfl, rfl⟩
  | (n, y) :: d, _, .cons (v := v) (fs := fs) hv t => by
    have ih := jk (k := k) (d := d) t
    show (∃ x v', List.lookup k ((n, y) :: d) = some x ∧ List.lookup k ((n, v) :: fs) = some v' ∧ (A x).p v' H) ∨ (List.lookup k ((n, y) :: d) = none ∧ List.lookup k ((n, v) :: fs) = none)
    rw [List.lookup_cons, List.lookup_cons]
    cases e : (k == n) with
    | true => exact .inl ⟨y, v, rfl, rfl, hv⟩
    | false => exact ih
theorem oI {α : Type} {A : α → Abs} {d : List (Str × α)} {fs : List (Str × V)} {H : Hp} (h : FAll (dAs A d) fs H) : fs.map (·.1) = d.map (·.1) := by
  rw [h.names]
  unfold dAs
  rw [List.map_map]
  rfl
def zP {α : Type} (d : List (Str × α)) (k : Str) : Option α := d.lookup k
def yw {α : Type} (k : Str) (d : List (Str × α)) : Option Bool := some (d.lookup k).isSome
def tE {α : Type} (d : List (Str × α)) : Option (List Str) := some (d.map (·.1))
def vF {α : Type} (d : List (Str × α)) : Option Int := some (d.length : Int)
theorem uW {H : Hp} {a : Addr} {fs : List (Str × V)} (h : Rd H a (.dK (f9 fs))) (k : Str) : DGet H a (.str k) (fs.lookup k) := .inl ⟨_, Sum.inr k, h, rfl, by rw [vf]⟩
section
variable {H0 : Hp} {ρ : List Slot} {K : PySem.W.Frag} {f fa fb : Bool} {ta tb te : TE} {α : Type} {A : α → Abs}
theorem zf {ma : Option (List (Str × α))} {mk : Option Str} (ha : DM H0 ρ ta f (aDs A) ma) (hb : DM H0 ρ tb fb (aE K) mk) : DM H0 ρ (tDGet ta tb) f A (b2 zP ma mk) := fun x e σ H Hr Q E k => by
  obtain ⟨d, n, h1, h2, h3⟩ := cq e
  refine ha d h1 σ H Hr _ E fun y H1 Hr1 x1 a1 => hb n h2 σ H1 Hr1 _ (E.ext x1) fun z H2 Hr2 x2 a2 => ?_
  cases a2
  obtain ⟨p, fs, rfl, hp1, r⟩ := a1
  have r2 := r.mono (cK f H0 x2.r)
  rcases jk (k := n) r2 with ⟨y, v, q1, q2, q3⟩ | ⟨q1, _⟩
  · rw [show d.lookup n = some x from h3] at q1
    cases q1
    have := uW (eZ (x2.s) (eZ (bD f) (eZ (cK f H0 x2.r) hp1))) n
    rw [q2] at this
    exact ⟨p, v, rfl, this, k v H2 Hr2 (x1.trans x2) q3⟩
  · rw [show d.lookup n = some x from h3] at q1
    cases q1
theorem Bj {ma : Option (List (Str × α))} {mk : Option Str} (hb : DM H0 ρ tb fb (aE K) mk) (ha : DM H0 ρ ta f (aDs A) ma) : DM H0 ρ (tDIn tb ta) true (aE K) (b2 yw mk ma) := fun x e σ H Hr Q E k => by
  obtain ⟨n, d, h1, h2, h3⟩ := cq e
  refine hb n h1 σ H Hr _ E fun z H1 Hr1 x1 a1 => ha d h2 σ H1 Hr1 _ (E.ext x1) fun y H2 Hr2 x2 a2 => ?_
  cases a1
  obtain ⟨p, fs, rfl, hp1, r⟩ := a2
  cases h3
  refine ⟨p, _, rfl, uW (eZ x2.s (eZ (bD f) hp1)) n, k _ H2 Hr2 (x1.trans x2) ?_⟩
  have : (fs.lookup n).isSome = (d.lookup n).isSome := by
    rcases jk (k := n) r with ⟨y, v, q1, q2, _⟩ | ⟨q1, q2⟩ <;> rw [q1, q2] <;> rfl
  rw [this]
  exact .bl _
def vu : List V → Hp → VK → Prop := fun xs H Q => ∃ a kvs, xs = [V.ref a] ∧ Rd H a (HO.dK kvs) ∧ ∀ (p : Addr), H p = none → Q (V.ref p) (upd H p (HO.lst (List.map (fun kv => kV kv.fst) kvs)))
theorem w3 {ma : Option (List (Str × α))} (ha : DM H0 ρ ta fa (aDs A) ma) : DM H0 ρ (tCB vu (tCons ta tNil)) true (aE K) (b1 tE ma) := fun x e σ H Hr Q E k => by
  obtain ⟨d, h1, h3⟩ := cC e
  cases h3
  refine ha d h1 σ H Hr _ E fun y H1 Hr1 x1 a1 => ?_
  obtain ⟨p, fs, rfl, hp1, r⟩ := a1
  refine ⟨p, f9 fs, rfl, eZ ((bD fa).trans x1.s) hp1, fun l hn => ?_⟩
  have e1 : (f9 fs).map (fun kv => kV kv.1) = (d.map (·.1)).map V.str := by
    rw [← oI r]
    unfold f9
    rw [List.map_map, List.map_map]
    rfl
  rw [e1]
  have xt : Ext H1 Hr1 (L2.upd H1 l (.lst ((d.map (·.1)).map V.str))) (L2.upd Hr1 l (.lst ((d.map (·.1)).map V.str))) := Ext.lay x1.s hn
  refine k _ _ _ (x1.trans xt) ?_
  show Dp K _ _ (.list ((d.map (·.1)).map en))
  exact .lst (SqL.of (ie true (E.ext x1).base hn)) (by
    have : ∀ xs : List Str, DpAll K (hp true (L2.upd Hr1 l (.lst ((d.map (·.1)).map V.str))) H0) (xs.map V.str) (xs.map en) := fun xs => by
      induction xs with
      | nil => exact .nil
      | cons y ys ih => exact .cons (.str y) ih
    exact this _)
end
end Kj

namespace Kj
open PySem PySem.Spec PyProof.Rows L2
def zX (a n : Int) (xs : Array Value) : Array Value := (xs.toList.zipIdx.filterMap fun p => if ((if (1 : Int) > 0 then (decide (a ≤ (p.2 : Int)) && decide ((p.2 : Int) < n) && (((p.2 : Int) - a) % 1 == 0)) else false) = true) then none else some p.1).toArray
theorem sP {α : Type} (a n : Nat) : ∀ (xs : List α) (k : Nat), k + xs.length = n → ((xs.zipIdx k).filterMap fun p => if ((if (1 : Int) > 0 then (decide ((a : Int) ≤ (p.2 : Int)) && decide ((p.2 : Int) < (n : Int)) && (((p.2 : Int) - (a : Int)) % 1 == 0)) else false) = true) then none else some p.1) = xs.take (a - k)
  | [], k, _ => by simp
  | x :: xs, k, h => by
    rw [List.zipIdx_cons, List.filterMap_cons]
    have ih := sP a n xs (k + 1) (by simp at h; omega)
    rw [ih]
    by_cases e : a ≤ k
    · have : k < n := by simp at h; omega
      have c : (if (1 : Int) > 0 then (decide ((a : Int) ≤ (k : Int)) && decide ((k : Int) < (n : Int)) && (((k : Int) - (a : Int)) % 1 == 0)) else false) = true := by
        rw [if_pos (by decide), decide_eq_true (by omega), decide_eq_true (by omega), Int.emod_one]; rfl
      dsimp only
      rw [if_pos c, show a - k = 0 by omega, show a - (k + 1) = 0 by omega]
      rfl
    · have c : ¬ ((if (1 : Int) > 0 then (decide ((a : Int) ≤ (k : Int)) && decide ((k : Int) < (n : Int)) && (((k : Int) - (a : Int)) % 1 == 0)) else false) = true) := by
        rw [if_pos (by decide), decide_eq_false (by omega)]; exact Bool.false_ne_true
      dsimp only
      rw [if_neg c, show a - k = (a - (k + 1)) + 1 by omega]
      rfl
theorem t7 {a n : Nat} (ha : a ≤ n) : sliceBounds (some (a : Int)) none none n = ((a : Int), (n : Int), 1) := by
  simp only [sliceBounds, Option.getD_none]
  have h1 : ¬ ((a : Int) < 0) := by omega
  simp only [h1, if_false, show (1 : Int) > 0 by decide, if_true]
  congr 1
  omega
section
variable {prog : Program} {w : World} {A : Around} {E : Value → Shared → Prop} {s : Shared}
theorem qG {l sl : Addr} {items : Array Value} {n : Nat} {vl : Value} {a : Nat} {Q : Unit → Shared → Prop}
    (e : s.heap.get? l = some { cls := .type "list", data := .seq items n })
    (hs : s.heap.IsSliceOf sl vl .none .none) (pl : IsPart vl (some (a : Int))) (ha : a ≤ items.size)
    (hsz : items.size ≤ sizeLine) (h : Q () { s with heap := s.heap.update l (Obj.mapSeq (zX a items.size)) }) :
    wpAny (model prog w) A (delItem (.ref l) (.ref sl)) Q E s := by
  have hl : s.heap.IsList l items := PySem.IsL.isList e
  obtain ⟨os, hos, hcs, hds⟩ := id hs
  have hTs : s.TypeIs (.ref sl) "slice" := ⟨os, hos, hcs⟩
  have hstep : ¬ ((rawPart none == rawInt 0) = true) := Bool.false_ne_true
  have hz' : (zX a items.size items).size ≤ sizeLine + 1 := by
    have := List.length_filterMap_le (fun p : Value × Nat => if ((if (1 : Int) > 0 then (decide ((a : Int) ≤ (p.2 : Int)) && decide ((p.2 : Int) < (items.size : Int)) && (((p.2 : Int) - (a : Int)) % 1 == 0)) else false) = true) then none else some p.1) items.toList.zipIdx
    rw [List.length_zipIdx, Array.length_toList] at this
    exact Nat.le_trans this (Nat.le_succ_of_le hsz)
  refine wpAny_delItem_slot hl.typeIs (by decide) PySem.F.slot_list_delitem ?_
  refine wpAny_call_entry PySem.F.slot_list_delitem hl.typeIs PySem.F.entry_list_delitem ?_ (PySem.F.args_list_delitem_2 _ _)
  show wpAny _ _ (Builtin.List.listSubscript? (.ref sl) >>= _) _ _ s
  refine wpAny_bind ?_
  unfold Builtin.List.listSubscript?
  refine wpAny_bind (wpAny_specialOf hTs slice_no_index ?_)
  simp only [Option.isNone_none, if_true]
  refine wpAny_pure ?_
  show wpAny _ _ (typeOf (.ref sl) >>= _) _ _ s
  refine wpAny_bind (wpAny_typeOf hTs ?_)
  first
    | rw [if_neg (by decide)]
    | refine PySem.W.KFB.if_not (by decide) ?_
  rw [listSliceParts_eq]
  refine wpAny_bind (wpAny_bind (wpAny_field hos hds (x := .none) rfl (wpAny_bind (wpAny_listPart .none ?_))))
  rw [if_neg hstep]
  refine wpAny_bind (wpAny_field hos hds (x := vl) rfl (wpAny_bind (wpAny_listPart pl ?_)))
  refine wpAny_bind (wpAny_field hos hds (x := .none) rfl (wpAny_bind (wpAny_listPart .none (wpAny_pure ?_))))
  unfold Builtin.List.listItems
  refine wpAny_bind (wpAny_bind (wpAny_seqItems e rfl (wpAny_pure ?_)))
  refine wpAny_bind (wpAny_of_eq ((sliceIndices_raw (some (a : Int)) none none items.size (by simp)).trans (congrArg (pure : Int × Int × Int → Sem (Int × Int × Int)) (t7 ha))) ?_)
  refine wpAny_bind (wpAny_rule ?_)
  show wpAny _ _ (updateSeq l (zX a items.size) >>= _) _ _ s
  refine wpAny_bind (wpAny_updateSeq (hz := hsz) (_hz' := hz') e rfl ?_)
  refine wpAny_bind (wpAny_letGo ?_)
  first
    | exact wpAny_bind (wpAny_pure (wpAny_pure ⟨.none, rfl, h⟩))
    | exact wpAny_pure ⟨.none, rfl, h⟩
end
section
variable {X : Cx} {pos p2 tpos : Pos}
def vk (to ti : TE) : TS := fun D σ H => to σ H fun x H1 => ti σ H1 fun y H2 => ∃ (l : Addr) (xs : List V) (a : Nat), x = .ref l ∧ y = .int a ∧ H2 l = some (.lst xs) ∧ a ≤ xs.length ∧ D.nx σ (upd H2 l (.lst (xs.take a)))
theorem vw {o i : Expr} {to ti : TE} (ho : PE X o to) (hi : PE X i ti) : PS X (.Delete [.Subscript o (.Slice (some i) none none p2) tpos] pos) (vk to ti) := by
  refine ⟨fun pins s σ H D I h => ?_⟩
  refine wpAny_Delete (wpAny_deleteEach_cons (wpAny_delete_Subscript (thn (ho.run pins s σ H _ I h) fun u s1 ⟨x, H1, I1, rx, q1⟩ => ?_)))
  refine wpAny_Slice ?_
  rw [evalPart_some]
  refine thn (hi.run pins s1 σ H1 _ I1 q1) fun iv s2 ⟨y, H2, I2, ry, q2⟩ => ?_
  rw [evalPart_none]
  refine wpAny_pure ?_
  try rw [evalPart_none]
  refine wpAny_pure ?_
  obtain ⟨l, xs, a, ex, ey, hH, ha, q2⟩ := q2
  subst ex
  subst ey
  cases (show u = Value.ref l from rx)
  obtain ⟨t, rfl⟩ := (show ∃ t, iv = Value.int (a : Int) t from ry)
  have I3 : Inv X pins σ H2 { s2 with heap := s2.heap.push { cls := .type "slice", data := .fields #[.int a t, .none, .none] } } := I2.kept (t' := s2.toks) fun b ob q => Heap.get?_push_of_some _ q
  obtain ⟨z, its, n, r, hl, e⟩ := I3.lstM hH
  refine qG (a := a) e (Heap.IsSliceOf.new ..) (.int _ _) (by rw [List.size_toArray]; omega) (by rw [List.size_toArray]; omega) ?_
  refine wpAny_deleteEach_nil ⟨σ, _, ?_, q2⟩
  refine I3.lset (its' := its.take a) (t' := s2.toks) hH e ?_ (r.take _) ?_
  · unfold zX
    rw [List.size_toArray]
    exact congrArg List.toArray (sP a its.length its 0 (by omega))
  · rw [List.length_take]; omega
end
end Kj

namespace Kj
open PySem L2
def hFs (lo so : Addr) (n : Nat) : List (Str × V) := [("log", .ref lo), ("done", .int n), ("stands", .ref so)]
structure HallAt (c p dx lo so : Addr) (n : Nat) (ls ss : List V) (H : Hp) : Prop where
  hp : H p = some (.ins c dx (hFs lo so n))
  hl : H lo = some (.lst ls)
  hs : H so = some (.lst ss)
  n1 : p ≠ lo
  n2 : p ≠ so
  n3 : lo ≠ so
structure HCls (K : PySem.W.Frag) (c : Addr) : Prop where
  cls : Cls K c
  log : NoAttr K c "log"
  done : NoAttr K c "done"
  stands : NoAttr K c "stands"
def ip (c : Addr) : Sp := fun vs H Q E => ∃ p dx lo so n ls ss v, vs = [.ref p] ∧ HallAt c p dx lo so n ls ss H ∧ ss[n]? = some v ∧ Q v H
def m8 (c : Addr) : Sp := fun vs H Q E => ∃ p dx lo so n ls ss v1 v2 v3, vs = [.ref p, v1, v2, v3] ∧ HallAt c p dx lo so n ls ss H ∧ n ≤ ls.length ∧ n + 1 ≤ ss.length ∧ n < 100000 ∧
  ∀ t H', H t = none → HallAt c p dx lo so (n + 1) (ls.take n ++ [v1]) (ss.take (n + 1) ++ [.ref t]) H' → H' t = some (.tup [v2, v3]) → (∀ a, a ≠ p → a ≠ lo → a ≠ so → a ≠ t → H' a = H a) → Q .non H'
def tFl (K : PySem.W.Frag) (f : Str) : TE := tFld K (tVar 0) f
def xy (K : PySem.W.Frag) : TS := tSeq (vk (tFl K "log") (tFl K "done")) (tSeq (vk (tFl K "stands") (tOp (rI0 fun i j => .int (i + j)) (tFl K "done") (tC (.int 1)))) (tSeq (tDrop (tBM K "list" rAppend (tFl K "log") (tCons (tVar 1) tNil)))
  (tSeq (tDrop (tBM K "list" rAppend (tFl K "stands") (tCons (tTup (tCons (tVar 2) (tCons (tVar 3) tNil))) tNil))) (tSeq (sFldAug K (tVar 0) (tC (.int 1)) (rI0 fun i j => .int (i + j)) "done") tNext))))
section
variable {K : PySem.W.Frag} {c p dx lo so : Addr} {n : Nat} {ls ss : List V} {H : Hp} {σ : St} {Q : VK}
theorem yC (k : HCls K c) (h : HallAt c p dx lo so n ls ss H) (hv : σ[0]? = some (some (.ref p))) (q : Q (.ref lo) H) : tFl K "log" σ H Q := ⟨_, hv, p, c, dx, _, _, rfl, h.hp, k.cls, k.log, rfl, q⟩
theorem rM (k : HCls K c) (h : HallAt c p dx lo so n ls ss H) (hv : σ[0]? = some (some (.ref p))) (q : Q (.int n) H) : tFl K "done" σ H Q := ⟨_, hv, p, c, dx, _, _, rfl, h.hp, k.cls, k.done, rfl, q⟩
theorem nq (k : HCls K c) (h : HallAt c p dx lo so n ls ss H) (hv : σ[0]? = some (some (.ref p))) (q : Q (.ref so) H) : tFl K "stands" σ H Q := ⟨_, hv, p, c, dx, _, _, rfl, h.hp, k.cls, k.stands, rfl, q⟩
theorem HallAt.log {ls' : List V} (h : HallAt c p dx lo so n ls ss H) : HallAt c p dx lo so n ls' ss (upd H lo (.lst ls')) := ⟨by rw [upd_ne h.n1]; exact h.hp, upd_same, by rw [upd_ne h.n3.symm]; exact h.hs, h.n1, h.n2, h.n3⟩
theorem HallAt.stands {ss' : List V} (h : HallAt c p dx lo so n ls ss H) : HallAt c p dx lo so n ls ss' (upd H so (.lst ss')) := ⟨by rw [upd_ne h.n2]; exact h.hp, by rw [upd_ne h.n3]; exact h.hl, upd_same, h.n1, h.n2, h.n3⟩
theorem HallAt.done {m : Nat} (h : HallAt c p dx lo so n ls ss H) : HallAt c p dx lo so m ls ss (upd H p (.ins c dx (hFs lo so m))) := ⟨upd_same, by rw [upd_ne h.n1.symm]; exact h.hl, by rw [upd_ne h.n2.symm]; exact h.hs, h.n1, h.n2, h.n3⟩
theorem HallAt.other {a : Addr} {o : HO} (h : HallAt c p dx lo so n ls ss H) (ha : H a = none) : HallAt c p dx lo so n ls ss (upd H a o) := ⟨by rw [upd_ne (ne_of_none h.hp ha)]; exact h.hp, by rw [upd_ne (ne_of_none h.hl ha)]; exact h.hl, by rw [upd_ne (ne_of_none h.hs ha)]; exact h.hs, h.n1, h.n2, h.n3⟩
theorem vp {to ti : TE} {u : TS} {D : Ends} (h : to σ H fun x H1 => ti σ H1 fun y H2 => ∃ (l : Addr) (xs : List V) (a : Nat), x = .ref l ∧ y = .int a ∧ H2 l = some (.lst xs) ∧ a ≤ xs.length ∧ u D σ (upd H2 l (.lst (xs.take a)))) : tSeq (vk to ti) u D σ H := h
theorem vq {to : TE} {t : TA} {u : TS} {D : Ends} (h : to σ H fun x H1 => tyV K "list" x H1 ∧ t σ H1 fun vs H2 => rAppend x vs H2 fun _ H3 => u D σ H3) : tSeq (tDrop (tBM K "list" rAppend to t)) u D σ H := h
theorem zW {ta tv : TE} {rd : V → V → Hp → VK → Prop} {f : Str} {u : TS} {D : Ends} (h : ta σ H fun x H1 => ∃ a C dx fs v, x = .ref a ∧ H1 a = some (.ins C dx fs) ∧ Cls K C ∧ NoAttr K C f ∧ fs.lookup f = some v ∧
  tv σ H1 fun y H2 => rd v y H2 fun z H3 => ∃ dx' fs', H3 a = some (.ins C dx' fs') ∧ fs'.length < 1000 ∧ u D σ (upd H3 a (.ins C dx' (putF f z fs')))) : tSeq (sFldAug K ta tv rd f) u D σ H := h
theorem xZ (k : HCls K c) {v1 v2 v3 : V} {D : Ends} (hv : σ[0]? = some (some (.ref p))) (h1 : σ[1]? = some (some v1)) (h2 : σ[2]? = some (some v2)) (h3 : σ[3]? = some (some v3)) (h : HallAt c p dx lo so n ls ss H) (hn : n ≤ ls.length) (hm : n + 1 ≤ ss.length) (hb : n < 100000)
    (q : ∀ t H', H t = none → HallAt c p dx lo so (n + 1) (ls.take n ++ [v1]) (ss.take (n + 1) ++ [.ref t]) H' → H' t = some (.tup [v2, v3]) → (∀ a, a ≠ p → a ≠ lo → a ≠ so → a ≠ t → H' a = H a) → D.nx σ H') : xy K D σ H := by
  have big : (100000 : Nat) < sizeLine := by rw [sizeLine_eq]; decide
  unfold xy
  refine vp (yC k h hv ?_)
  refine rM k h hv ?_
  refine ⟨lo, ls, n, rfl, rfl, h.hl, hn, ?_⟩
  have g1 := h.log (ls' := ls.take n)
  refine vp (nq k g1 hv ?_)
  refine rM k g1 hv ?_
  refine ⟨_, _, rfl, rfl, ?_⟩
  refine ⟨so, ss, n + 1, rfl, rfl, g1.hs, hm, ?_⟩
  have g2 := g1.stands (ss' := ss.take (n + 1))
  refine vq (yC k g2 hv ?_)
  refine ⟨tyL g2.hl, ⟨v1, h1, lo, _, v1, rfl, rfl, g2.hl, by rw [List.length_take]; omega, ?_⟩⟩
  have g3 := g2.log (ls' := ls.take n ++ [v1])
  refine vq (nq k g3 hv ?_)
  refine ⟨tyL g3.hs, ⟨v2, h2, v3, h3, ?_⟩⟩
  refine ⟨by show 2 ≤ sizeLine; rw [sizeLine_eq]; decide, fun t ht => ?_⟩
  have g4 := g3.other (o := .tup [v2, v3]) ht
  refine ⟨so, _, .ref t, rfl, rfl, g4.hs, by rw [List.length_take]; omega, ?_⟩
  have g5 := g4.stands (ss' := ss.take (n + 1) ++ [.ref t])
  refine zW ?_
  refine ⟨_, hv, p, c, dx, _, _, rfl, g5.hp, k.cls, k.done, rfl, ⟨_, _, rfl, rfl, dx, _, g5.hp, (by show 3 < 1000; decide), ?_⟩⟩
  have g6 := g5.done (m := n + 1)
  have htl : t ≠ lo := (ne_of_none g3.hl ht).symm
  have hts : t ≠ so := (ne_of_none g3.hs ht).symm
  have htp : t ≠ p := (ne_of_none g3.hp ht).symm
  refine q t _ ?_ g6 ?_ fun a a1 a2 a3 a4 => ?_
  · rw [upd_ne htl, upd_ne hts, upd_ne htl] at ht; exact ht
  · rw [upd_ne htp, upd_ne hts, upd_same]
  · rw [upd_ne a1, upd_ne a3, upd_ne a4, upd_ne a2, upd_ne a3, upd_ne a2]
theorem wj (k : HCls K c) {v : V} (hv : σ[0]? = some (some (.ref p))) (h : HallAt c p dx lo so n ls ss H) (hs : ss[n]? = some v) (q : Q v H) : tOp (rIxL K) (tFl K "stands") (tFl K "done") σ H Q := by
  refine nq k h hv (rM k h hv ⟨so, ss, n, v, rfl, rfl, SqL.of h.hs, ?_, q⟩)
  have hl := (List.getElem?_eq_some_iff.mp hs).1
  rw [BK hl, ← List.getElem?_eq_getElem hl, hs]
end
end Kj

namespace Kj
open PySem L2
def xK : List V → Hp → VK → Prop := fun xs H Q => ∃ a kvs, xs = [V.ref a] ∧ Rd H a (.dK kvs) ∧ Q (.int kvs.length) H
theorem u5 {X : Cx} : CallR X (.builtin "len") xK := by
  intro pins s σ H xs us Q I r h
  obtain ⟨a, kvs, rfl, ha, q⟩ := h
  obtain ⟨u, rfl, ru⟩ := vals1 r
  cases ru
  exact d_len I ha fun t s' I' => ⟨.int kvs.length, H, I', ⟨t, rfl⟩, q⟩
theorem wx {k : Str} {v : V} {fs : List (Str × V)} (h : k ∉ fs.map (·.1)) : putK (f9 fs) (Sum.inr k : Key) v = f9 (fs ++ [(k, v)]) := by
  unfold putK
  rw [zE, decide_eq_false h, if_neg (by simp)]
  unfold f9
  rw [List.map_append]; rfl
def aDx (fs : List (Str × V)) : Abs := ⟨fun v H => ∃ a, v = .ref a ∧ Rd H a (.dK (f9 fs)), fun v _ _ s ⟨a, e, h⟩ => ⟨a, e, eZ s h⟩⟩
def aDy (fs : List (Str × V)) (k : Str) (A : Abs) : Abs := ⟨fun v H => ∃ a u, v = .ref a ∧ Rd H a (.dK (f9 (fs ++ [(k, u)]))) ∧ A.p u H, fun v _ _ s ⟨a, u, e, h, q⟩ => ⟨a, u, e, eZ s h, A.mono _ _ _ s q⟩⟩
section
variable {H0 : Hp} {ρ : List Slot} {K : PySem.W.Frag} {f fa fb : Bool} {ta tb tv te : TE} {α : Type} {A : α → Abs}
theorem za {ma : Option (List (Str × α))} (ha : DM H0 ρ ta fa (aDs A) ma) : DM H0 ρ (tCB xK (tCons ta tNil)) true (aE K) (b1 vF ma) := fun x e σ H Hr Q E k => by
  obtain ⟨d, h1, h3⟩ := cC e
  cases h3
  refine ha d h1 σ H Hr _ E fun y H1 Hr1 x1 a1 => ?_
  obtain ⟨p, fs, rfl, hp1, r⟩ := a1
  refine ⟨p, f9 fs, rfl, eZ ((bD fa).trans x1.s) hp1, k _ H1 Hr1 x1 ?_⟩
  have l : fs.length = d.length := by have := congrArg List.length (oI r); simpa using this
  rw [yn, l]
  exact .int _
theorem Bp {fs : List (Str × V)} {n : Str} {Av : Abs} (nr : g9 ρ = true) (ha : DE H0 ρ ta fa (aDx fs)) (hb : DE H0 ρ tb fb (aE K n)) (hv : DE H0 ρ tv true Av) (nd : (fs.map (·.1)).Nodup) (nn : n ∉ fs.map (·.1)) (hl : fs.length < 100000) : DE H0 ρ (ou ta tb tv) true (aDy fs n Av) := fun σ H Hr Q E k => by
  intro D hD
  have h0 : H0 D = none := E.base.free hD
  have hr0 : Hr D = none := E.sub.free hD
  have o0 : mX ρ σ D := mX.ext E hD
  have E0 : EnvOk H0 σ ρ (upd H D (.dK [])) Hr := E.out2 nr o0 h0 hr0
  refine ha σ _ Hr _ E0 fun y H1 Hr1 x1 a1 => ?_
  obtain ⟨p, rfl, hp0⟩ := a1
  have hp1 : Rd Hr1 p (.dK (f9 fs)) := eZ (bD fa) hp0
  have hD1 : H1 D = some (.dK []) := x1.h _ _ upd_same
  have hr1 : Hr1 D = none := x1.out upd_same hr0
  have Dp : D ≠ p := fun z => by
    subst z
    rcases hp1 with h | ⟨o, h⟩ <;> rw [hr1] at h <;> cases h
  have em : mergeK [] (f9 fs) = f9 fs := qP fs [] (by rw [List.nil_append]; exact nd)
  refine ⟨p, f9 fs, rfl, eZ x1.s hp1, Dp, hD1, by rw [yn]; exact hl, fun S hS => ?_⟩
  rw [em]
  have hr1S : Hr1 S = none := x1.s.free hS
  have h0S : H0 S = none := (E0.ext x1).base.free hS
  have DS : D ≠ S := fun z => by rw [← z, hD1] at hS; cases hS
  have EX := E0.ext x1
  have E1 : EnvOk H0 σ ρ (upd H1 D (.dK (f9 fs))) Hr1 := EX.out2 nr o0 h0 hr1
  have oS : mX ρ σ S := mX.ext EX hS
  have E2 : EnvOk H0 σ ρ (upd (upd H1 D (.dK (f9 fs))) S (.dK [])) Hr1 := E1.out2 nr oS h0S hr1S
  refine hb σ _ Hr1 _ E2 fun z H2 Hr2 x2 a2 => hv σ H2 Hr2 _ (E2.ext x2) fun u H3 Hr3 x3 a3 => ?_
  cases a2
  have x23 := x2.trans x3
  have hS3 : H3 S = some (.dK []) := x23.h _ _ upd_same
  have hD3 : H3 D = some (.dK (f9 fs)) := x23.h _ _ (by rw [upd_ne DS]; exact upd_same)
  have hr3D : Hr3 D = none := x23.out (by rw [upd_ne DS]; exact upd_same) hr1
  have hr3S : Hr3 S = none := x23.out upd_same hr1S
  refine ⟨Sum.inr n, rfl, hS3, hD3, fun od' => ?_⟩
  rw [wx nn]
  have up : Same Hr3 (upd Hr3 D (.frz od' (.dK (f9 (fs ++ [(n, u)]))))) := fun a o q => by rw [upd_ne (ne_of_none q hr3D)]; exact q
  refine k (.ref D) _ (upd Hr3 D (.frz od' (.dK (f9 (fs ++ [(n, u)]))))) ⟨fun a o q => ?_, fun a o q => ?_, fun a o q => ?_, fun a o q q' => ?_⟩ ⟨D, u, rfl, .inr ⟨od', bu.mpr ⟨h0, upd_same⟩⟩, Av.mono _ _ _ (dI H0 up) a3⟩
  · have aD : a ≠ D := ne_of_none q hD
    have q1 : H1 a = some o := x1.h _ _ (by rw [upd_ne aD]; exact q)
    have aS : a ≠ S := ne_of_none q1 hS
    rw [upd_ne aD, upd_ne aS]
    exact x23.h _ _ (by rw [upd_ne aS, upd_ne aD]; exact q1)
  · rw [upd_ne (ne_of_none q hr0)]
    exact x23.r _ _ (x1.r _ _ q)
  · by_cases z : a = D
    · subst z; rw [upd_same] at q ⊢; exact q
    · rw [upd_ne z] at q ⊢
      have aS : a ≠ S := fun y => by rw [y, hr3S] at q; cases q
      rw [upd_ne aS]; exact x23.s _ _ q
  · by_cases z : a = D
    · subst z; exact hD
    · rw [upd_ne z] at q
      cases y : Hr1 a with
      | some w => have := x1.n a w y q'; rw [upd_ne z] at this; exact this
      | none =>
        have n2 := x23.n a o q y
        have aS : a ≠ S := fun y => by rw [y, hr3S] at q; cases q
        rw [upd_ne aS, upd_ne z] at n2
        have := x1.h.free n2
        rw [upd_ne z] at this; exact this
end
end Kj

namespace Kj
open PySem L2
inductive Thing where
  | s (x : Str)
  | l (x : List (List Str))
  deriving DecidableEq
instance : Enc Thing := ⟨fun t => match t with | .s x => en x | .l x => en x, fun t => by cases t <;> exact Enc.plain _, 2, fun t => by
  cases t with
  | s x => exact Nat.le_trans (ge x) (by decide)
  | l x => exact ge x, fun x y => by
  cases x with
  | s x =>
    cases y with
    | s y => show PyData.eqv (en x) (en y) = true ↔ _; rw [Enc.eqv]; exact ⟨fun h => by rw [h], fun h => by cases h; rfl⟩
    | l y => exact ⟨fun h => by have h' : PyData.eqv (.str x) (.list (y.map en)) = true := h; simp [PyData.eqv] at h', fun h => by cases h⟩
  | l x =>
    cases y with
    | s y => exact ⟨fun h => by have h' : PyData.eqv (.list (x.map en)) (.str y) = true := h; simp [PyData.eqv] at h', fun h => by cases h⟩
    | l y => show PyData.eqv (en x) (en y) = true ↔ _; rw [Enc.eqv]; exact ⟨fun h => by rw [h], fun h => by cases h; rfl⟩⟩
structure HallT where
  log : List (Tp Thing)
  done : Nat
  stands : List (P2 (List (Str × BookT)) (List (Str × TableT)))
abbrev b9 (K : PySem.W.Frag) : Addr := He.ga K "Hall"
abbrev qc (K : PySem.W.Frag) (x : P2 (List (Str × BookT)) (List (Str × TableT))) : Abs := aT2 K (aDs (bV K)) (aDs (zK K)) x
def G3 (G : Hp) (p lo so : Addr) : Hp := fun a => if a = p ∨ a = lo ∨ a = so then none else G a
theorem hY {G : Hp} {p lo so a : Addr} {o : HO} : G3 G p lo so a = some o ↔ (a ≠ p ∧ a ≠ lo ∧ a ≠ so) ∧ G a = some o := by
  unfold G3
  by_cases h : a = p ∨ a = lo ∨ a = so
  · rw [if_pos h]
    refine ⟨fun z => by (cases z), fun z => ?_⟩
    rcases h with e | e | e
    · exact absurd e z.1.1
    · exact absurd e z.1.2.1
    · exact absurd e z.1.2.2
  · rw [if_neg h]
    exact ⟨fun z => ⟨⟨fun e => h (.inl e), fun e => h (.inr (.inl e)), fun e => h (.inr (.inr e))⟩, z⟩, fun z => z.2⟩
theorem wc {G G' : Hp} {p lo so : Addr} (s : Same G G') : Same (G3 G p lo so) (G3 G' p lo so) := fun a o q => hY.mpr ⟨(hY.mp q).1, s _ _ (hY.mp q).2⟩
theorem u_ {G : Hp} {p lo so : Addr} : Same (G3 G p lo so) G := fun a o q => (hY.mp q).2
theorem HallAt.mono {c p dx lo so : Addr} {n : Nat} {ls ss : List V} {H H' : Hp} (s : Same H H') (h : HallAt c p dx lo so n ls ss H) : HallAt c p dx lo so n ls ss H' := ⟨s _ _ h.hp, s _ _ h.hl, s _ _ h.hs, h.n1, h.n2, h.n3⟩
def b8 (K : PySem.W.Frag) (c : Addr) (h : HallT) : Abs := ⟨fun v G => ∃ p dx lo so ls ss, v = .ref p ∧ HallAt c p dx lo so h.done ls ss G ∧ AllP (h.log.map fun d => aE K d) ls (G3 G p lo so) ∧ AllP (h.stands.map (qc K)) ss (G3 G p lo so),
  fun v G G' s ⟨p, dx, lo, so, ls, ss, e, h1, h2, h3⟩ => ⟨p, dx, lo, so, ls, ss, e, h1.mono s, h2.mono (wc s), h3.mono (wc s)⟩⟩
theorem AllP.takeN {H : Hp} : ∀ {As : List Abs} {vs : List V}, AllP As vs H → ∀ n : Nat, AllP (As.take n) (vs.take n) H
  | _, _, .nil, n => by simp only [List.take_nil]; exact .nil
  | _, _, .cons a t, 0 => .nil
  | _, _, .cons a t, n + 1 => .cons a (t.takeN n)
theorem FAll.snoc {H : Hp} : ∀ {fas : List (Str × Abs)} {fs : List (Str × V)}, FAll fas fs H → ∀ {n : Str} {A : Abs} {v : V}, A.p v H → FAll (fas ++ [(n, A)]) (fs ++ [(n, v)]) H
  | _, _, .nil, _, _, _, h => .cons h .nil
  | _, _, .cons a t, _, _, _, h => .cons a (t.snoc h)
def ri (K : PySem.W.Frag) (c : Addr) {α β : Type} (A2 : α → Abs) (A3 : β → Abs) (F : HallT → α → β → Option (Rs HallT)) : Sp := fun vs H Q E => ∃ v0 v1 v2 h a b G o, vs = [v0, v1, v2] ∧ Same G H ∧ (b8 K c h).p v0 G ∧ (A2 a).p v1 H ∧ (A3 b).p v2 H ∧ F h a b = some o ∧ match o with
  | .ex e => ∀ cls d H', Same H H' → xP K e cls d H' → E cls d H'
  | .ok h' => ∀ H' G', (∀ a o, H a = some o → G a = none → H' a = some o) → (∀ a o, G' a = some o → H' a = some o ∧ (G a ≠ none ∨ H a = none)) → (b8 K c h').p v0 G' → Q .non H'
section
variable (mk : List (List Str) → Option (Rs BookT)) (chk : List (Str × BookT) → Str → Option Unit) (nl : List (List Str) → Option (List (List Str)))
def ox (h : HallT) (n : Str) (v : List (List Str)) : Option (Rs HallT) :=
  (h.stands[h.done]?).bind fun st => (chk st.a n).bind fun _ => (mk v).bind fun r => match r with
    | .ex e => some (.ex e)
    | .ok b => (nl v).bind fun v2 => if h.done ≤ h.log.length ∧ h.done + 1 ≤ h.stands.length ∧ h.done < 100000 ∧ n ∉ st.a.map (·.1) ∧ (st.a.map (·.1)).Nodup ∧ st.a.length < 100000 then
        some (.ok ⟨h.log.take h.done ++ [⟨[.s "shelve", .s n, .l v2]⟩], h.done + 1, h.stands.take (h.done + 1) ++ [⟨st.a ++ [(n, b)], st.b⟩]⟩) else none
def rg (K : PySem.W.Frag) (c cB : Addr) (W : WX) : TS :=
  tSeq (tAsg (tCall (ip c) [] E0 (tCons (tVar 0) tNil)) (gTup K 2 (gCons (gName 3) (gCons (gName 4) gNil))))
  (tSeq (tDrop (tCall (spF (sp2 (aDs (bV K)) (aE K) (aE K) chk)) [] E0 (tCons (tVar 3) (tCons (tVar 1) tNil))))
  (tSeq (tAsg (m7 cB (qf (ui K (aE K) (hZ K) mk) cB) (WE W) (tCons (tVar 2) tNil)) (gName 5))
  (tSeq (tDrop (tCall (m8 c) [] E0 (tCons (tVar 0) (tCons (tTup (tCons (tC (.str "shelve")) (tCons (tVar 1) (tCons (tCall (spF (sp1 (aE K) (aE K) nl)) [] E0 (tCons (tVar 2) tNil)) tNil)))) (tCons (ou (tVar 3) (tVar 1) (tVar 5)) (tCons (tVar 4) tNil)))))) tNext)))
theorem nZ {α β : Type} {m : Option α} {k : α → Option β} {y : β} (h : m.bind k = some y) : ∃ x, m = some x ∧ k x = some y := Option.bind_eq_some_iff.mp h
theorem wh {K : PySem.W.Frag} {c p dx lo so t : Addr} {n : Nat} {ls ss : List V} {w1 w2 : V} {H : Hp} {σ : St} {D : Ends} {u : TS} (hv : σ[0]? = some (some (.ref p))) (h : HallAt c p dx lo so n ls ss H) (hs : ss[n]? = some (.ref t)) (ht : SqT K H t [w1, w2])
    (k : u D ((σ.set 3 (some w1)).set 4 (some w2)) H) : tSeq (tAsg (tCall (ip c) [] E0 (tCons (tVar 0) tNil)) (gTup K 2 (gCons (gName 3) (gCons (gName 4) gNil)))) u D σ H := by
  refine ⟨_, hv, p, dx, lo, so, n, ls, ss, .ref t, rfl, h, hs, ?_⟩
  exact ⟨t, [w1, w2], rfl, ht, rfl, w1, [w2], rfl, w2, [], rfl, rfl, k⟩
theorem vn {te : TE} {u : TS} {D : Ends} {σ : St} {H : Hp} (h : te σ H fun _ H1 => u D σ H1) : tSeq (tDrop te) u D σ H := h
theorem xA {te : TE} {i : Nat} {u : TS} {D : Ends} {σ : St} {H : Hp} (h : te σ H fun v H1 => u D (σ.set i (some v)) H1) : tSeq (tAsg te (gName i)) u D σ H := h
variable {K : PySem.W.Frag} {c : Addr} {h : HallT} {n : Str} {rows : List (List Str)} {v0 v2 : V} {H G : Hp} {D : Ends} {W : WX} {σ : St}
theorem uj (hσ : σ = [some v0, some (.str n), some v2, none, none, none]) (sG : Same G H) (hG : (b8 K c h).p v0 G) (h2 : (aE K rows).p v2 H) (o : Rs HallT) (hF : ox mk chk nl h n rows = some o)
    (kx : ∀ e, o = .ex e → ∀ cls d σ' H', Same H H' → xP K e cls d H' → W cls d σ' H')
    (kn : ∀ h', o = .ok h' → ∀ σ' H' G', (∀ a o, H a = some o → G a = none → H' a = some o) → (∀ a o, G' a = some o → H' a = some o ∧ (G a ≠ none ∨ H a = none)) → (b8 K c h').p v0 G' → D.nx σ' H') : rg mk chk nl K c (d5 K) W D σ H := by
  obtain ⟨st, e1, hF⟩ := nZ hF
  obtain ⟨_, e2, hF⟩ := nZ hF
  obtain ⟨r, e3, hF⟩ := nZ hF
  obtain ⟨p, dx, lo, so, ls, ss, rfl, hat, hl, hs⟩ := hG
  have hat1 := hat.mono sG
  obtain ⟨vt, f1, t, vs, rfl, f3, f4⟩ := hs.at (j := h.done) (A := qc K st) (by rw [List.getElem?_map, e1]; rfl)
  cases f4 with | cons d1 f4 =>
  cases f4 with | cons d2 f4 =>
  cases f4
  rename_i w1 w2
  obtain ⟨ad, fs, rfl, hd, hfs⟩ := id d1
  have s3 : Same (G3 G p lo so) H := u_.trans sG
  unfold rg
  refine wh (hσ ▸ rfl) hat1 f1 (l4 s3 f3) ?_
  subst hσ
  have dA : (aDs (bV K) st.a).p (.ref ad) H := (aDs (bV K) st.a).mono _ _ _ s3 d1
  have Ea : EnvOk H [some (.ref p), some (.str n), some v2, some (.ref ad), some w2, none] [.dat (aIs (.ref p)), .dat (aE K n), .dat (aE K rows), .dat (aDs (bV K) st.a), .dat (aIs w2), .no] H H :=
    gW (As := [aIs (.ref p), aE K n, aE K rows, aDs (bV K) st.a, aIs w2]) (vs := [.ref p, .str n, v2, .ref ad, w2]) 1 (.cons rfl (.cons (.str n) (.cons h2 (.cons dA (.cons rfl .nil)))))
  have Eb : EnvOk H [some (.ref p), some (.str n), some v2, some (.ref ad), some w2, none] [.dat (aIs (.ref p)), .dat (aE K n), .dat (aE K rows), .dat (aDx fs), .dat (aIs w2), .no] H H :=
    gW (As := [aIs (.ref p), aE K n, aE K rows, aDx fs, aIs w2]) (vs := [.ref p, .str n, v2, .ref ad, w2]) 1 (.cons rfl (.cons (.str n) (.cons h2 (.cons ⟨ad, rfl, eZ s3 hd⟩ (.cons rfl .nil)))))
  have hc : DM H [.dat (aIs (.ref p)), .dat (aE K n), .dat (aE K rows), .dat (aDs (bV K) st.a), .dat (aIs w2), .no] (tCall (spF (sp2 (aDs (bV K)) (aE K) (aE K) chk)) [] E0 (tCons (tVar 3) (tCons (tVar 1) tNil))) true (aE K) (b2 chk (some st.a) (some n)) :=
    gr cO (ae (A := aDs (bV K)) (f := false) (x := st.a) rfl) (ae (A := aE K) (f := false) (x := n) rfl)
  refine vn (hc () e2 _ H H _ Ea fun _ H1 Hr1 x1 _ => ?_)
  have E1 := Eb.ext x1
  have hm : DMx W K H [.dat (aIs (.ref p)), .dat (aE K n), .dat (aE K rows), .dat (aDx fs), .dat (aIs w2), .no] (m7 (d5 K) (qf (ui K (aE K) (hZ K) mk) (d5 K)) (WE W) (tCons (tVar 2) tNil)) true (fun b => kf (d5 K) (hZ K b)) (b1 mk (some rows)) :=
    wX cO (ae (A := aE K) (f := false) (x := rows) rfl)
  cases r with
  | ex e =>
    cases hF
    exact xA (hm.2 e e3 _ H1 Hr1 _ E1 fun cls d H' Hr' x2 q => kx e rfl cls d _ H' (x1.h.trans x2.h) q)
  | ok b =>
    obtain ⟨v2', e4, hF⟩ := nZ hF
    split at hF
    case isFalse => cases hF
    rename_i hcn
    cases hF
    obtain ⟨c1, c2, c3, c4, c5, c6⟩ := hcn
    refine xA (hm.1 b e3 _ H1 Hr1 _ E1 fun vb H2 Hr2 x2 a2 => ?_)
    have E2 := (E1.ext x2).set (i := 5) (f := true) (A := kf (d5 K) (hZ K b)) (kB rfl) a2
    have hd : DM H [.dat (aIs (.ref p)), .dat (aE K n), .dat (aE K rows), .dat (aDx fs), .dat (aIs w2), .new (bV K b)] (tTup (tCons (tC (.str "shelve")) (tCons (tVar 1) (tCons (tCall (spF (sp1 (aE K) (aE K) nl)) [] E0 (tCons (tVar 2) tNil)) tNil)))) true (aE K) (b3 mk3 (some ("shelve" : Str)) (some n) (b1 nl (some rows))) :=
      hV bE (bx (ae (A := aE K) (f := false) (x := n) rfl)) (fF cO (ae (A := aE K) (f := false) (x := rows) rfl))
    have hg : DE H [.dat (aIs (.ref p)), .dat (aE K n), .dat (aE K rows), .dat (aDx fs), .dat (aIs w2), .new (bV K b)] (ou (tVar 3) (tVar 1) (tVar 5)) true (aDy fs n (bV K b)) :=
      Bp rfl (fa := false) (fb := false) (lR rfl) (lR rfl) (vZ rfl) (by rw [oI hfs]; exact c5) (by rw [oI hfs]; exact c4) (by rw [hfs.len.symm]; show (st.a.map fun x => (x.1, bV K x.2)).length < _; rw [List.length_map]; exact c6)
    refine vn ⟨.ref p, rfl, ?_⟩
    refine hd ⟨"shelve", n, v2'⟩ (by show (b1 nl (some rows)).bind _ = _; rw [show b1 nl (some rows) = some v2' from e4]; rfl) _ H2 Hr2 _ E2 fun vt H3 Hr3 x3 a3 => ?_
    refine hg _ H3 Hr3 _ (E2.ext x3) fun vd H4 Hr4 x4 a4 => ?_
    refine ⟨w2, rfl, ?_⟩
    have s14 : Same H H4 := ((x1.h.trans x2.h).trans x3.h).trans x4.h
    have hl1 : ls.length = h.log.length := by rw [← hl.length, List.length_map]
    have hs1 : ss.length = h.stands.length := by rw [← hs.length, List.length_map]
    refine ⟨p, dx, lo, so, h.done, ls, ss, vt, vd, w2, rfl, hat1.mono s14, by omega, by omega, c3, fun t' H' ht' hat' htup hoth => ?_⟩
    obtain ⟨xd, u, rfl, hxd, hu⟩ := a4
    have hpn : G p ≠ none := by rw [hat.hp]; intro z; cases z
    have hln : G lo ≠ none := by rw [hat.hl]; intro z; cases z
    have hsn : G so ≠ none := by rw [hat.hs]; intro z; cases z
    have tH : H t' = none := s14.free ht'
    have tG : G t' = none := sG.free tH
    let G' : Hp := fun a => match G a with | some _ => H' a | none => match H a with | none => H' a | some _ => none
    have gG : ∀ a, G a ≠ none → G' a = H' a := fun a q => by
      show (match G a with | some _ => H' a | none => match H a with | none => H' a | some _ => none) = _
      cases y : G a with
      | none => exact absurd y q
      | some o => rfl
    have gN : ∀ a, H a = none → G' a = H' a := fun a q => by
      show (match G a with | some _ => H' a | none => match H a with | none => H' a | some _ => none) = _
      rw [sG.free q, q]
    have old : Same (G3 G p lo so) (G3 G' p lo so) := fun a o q => by
      obtain ⟨⟨n1, n2, n3⟩, q1⟩ := hY.mp q
      have nt : a ≠ t' := fun z => by rw [z, tG] at q1; cases q1
      refine hY.mpr ⟨⟨n1, n2, n3⟩, ?_⟩
      rw [gG a (by rw [q1]; intro z; cases z), hoth a n1 n2 n3 nt]
      exact s14 _ _ (sG _ _ q1)
    have new : Same (mns Hr4 H) (G3 G' p lo so) := fun a o q => by
      obtain ⟨q1, q2⟩ := bu.mp q
      have ne : ∀ b, G b ≠ none → a ≠ b := fun b hb z => by subst z; exact hb (sG.free q1)
      have q4 : H4 a = some o := x4.s _ _ q2
      have nt : a ≠ t' := fun z => by rw [z, ht'] at q4; cases q4
      refine hY.mpr ⟨⟨ne p hpn, ne lo hln, ne so hsn⟩, ?_⟩
      rw [gN a q1, hoth a (ne p hpn) (ne lo hln) (ne so hsn) nt]
      exact q4
    have htg : G3 G' p lo so t' = some (.tup [.ref xd, w2]) := hY.mpr ⟨⟨fun z => hpn (by rw [← z]; exact tG), fun z => hln (by rw [← z]; exact tG), fun z => hsn (by rw [← z]; exact tG)⟩, by rw [gN _ tH]; exact htup⟩
    refine kn _ rfl _ H' G' (fun a o q g => ?_) (fun a o q => ?_) ⟨p, dx, lo, so, _, _, rfl, ⟨by rw [gG p hpn]; exact hat'.hp, by rw [gG lo hln]; exact hat'.hl, by rw [gG so hsn]; exact hat'.hs, hat.n1, hat.n2, hat.n3⟩, ?_, ?_⟩
    · have ne : ∀ b, G b ≠ none → a ≠ b := fun b hb z => by subst z; exact hb g
      have nt : a ≠ t' := fun z => by rw [z, tH] at q; cases q
      rw [hoth a (ne p hpn) (ne lo hln) (ne so hsn) nt]
      exact s14 _ _ q
    · have q' : (match G a with | some _ => H' a | none => match H a with | none => H' a | some _ => none) = some o := q
      cases y : G a with
      | some w => rw [y] at q'; exact ⟨q', .inl (by intro z; cases z)⟩
      | none =>
        rw [y] at q'
        cases y2 : H a with
        | none => rw [y2] at q'; exact ⟨q', .inr rfl⟩
        | some w => rw [y2] at q'; cases q'
    · rw [List.map_append, List.map_take]
      exact ((hl.takeN _).mono old).snoc ((aE K (⟨[.s "shelve", .s n, .l v2']⟩ : Tp Thing)).mono _ _ _ ((dI H x4.r).trans new) a3)
    · rw [List.map_append, List.map_take]
      refine ((hs.takeN _).mono old).snoc ⟨t', [.ref xd, w2], rfl, SqT.of htg, .cons ⟨xd, fs ++ [(n, u)], rfl, eZ new hxd, ?_⟩ (.cons ((aDs (zK K) st.b).mono _ _ _ old d2) .nil)⟩
      show FAll (dAs (bV K) (st.a ++ [(n, b)])) (fs ++ [(n, u)]) _
      unfold dAs
      rw [List.map_append]
      exact (hfs.mono old).snoc ((bV K b).mono _ _ _ new hu)
end
end Kj

namespace Kj
open PySem L2
section
variable {P : Program} {w : World} {K : PySem.W.Frag} {mg : Str → Option Value} {base : Heap} {x qual : Str} {st : Stmt} {f : Addr} {fd : FuncData} {c : Addr} {k : Nat}
theorem ux (F : FnP K x qual st f fd) (Sc : FnScope ["hall"] ["hall"] (defScope st)) (hc : HCls K c)
    (body : ∀ (cdv : Value) (A : Around) (outer : List Env) (s : Shared) (H : Hp) (E : XK), PSs (cxOf CX0 P w K mg base ["hall"] qual (defScope st) f cdv A outer s H E).nox (defBody st) (tSeq (tRet (tOp (rIxL K) (tFl K "stands") (tFl K "done"))) tNext)) : FnOk P w K mg base CX0 (k + 1) f fd ["hall"] (ip c) := by
  refine F.ok Sc (fun vs H Q E h => ?_) (fun cdv A outer s H vs Q E hr h => ?_)
  · obtain ⟨p, dx, lo, so, n, ls, ss, v, rfl, _⟩ := h; rfl
  · obtain ⟨p, dx, lo, so, n, ls, ss, v, rfl, h1, h2, q⟩ := h
    exact ⟨_, (body cdv A outer s H E).nox, wj hc rfl h1 h2 q⟩
theorem wS (F : FnP K x qual st f fd) (Sc : FnScope ["hall", "deed", "shelf", "tables"] ["hall", "deed", "shelf", "tables"] (defScope st)) (hc : HCls K c)
    (body : ∀ (cdv : Value) (A : Around) (outer : List Env) (s : Shared) (H : Hp) (E : XK), PSs (cxOf CX0 P w K mg base ["hall", "deed", "shelf", "tables"] qual (defScope st) f cdv A outer s H E).nox (defBody st) (xy K)) : FnOk P w K mg base CX0 (k + 1) f fd ["hall", "deed", "shelf", "tables"] (m8 c) := by
  refine F.ok Sc (fun vs H Q E h => ?_) (fun cdv A outer s H vs Q E hr h => ?_)
  · obtain ⟨p, dx, lo, so, n, ls, ss, v1, v2, v3, rfl, _⟩ := h; rfl
  · obtain ⟨p, dx, lo, so, n, ls, ss, v1, v2, v3, rfl, h1, h2, h3, h4, q⟩ := h
    exact ⟨_, (body cdv A outer s H E).nox, xZ hc rfl rfl rfl rfl h1 h2 h3 h4 q⟩
theorem tL {mk : List (List Str) → Option (Rs BookT)} {chk : List (Str × BookT) → Str → Option Unit} {nl : List (List Str) → Option (List (List Str))} (F : FnP K x qual st f fd) (Sc : FnScope ["self", "name", "verses", "shelf", "tables", "book"] ["self", "name", "verses"] (defScope st))
    (body : ∀ (cdv : Value) (A : Around) (outer : List Env) (s : Shared) (H : Hp) (E : XK), Room k (A.deeper (PyProof.Rows.envOfC qual (defScope st) s.heap.objs.size f cdv)) →
      PSs (cxOf (L2.CX P w) P w K mg base ["self", "name", "verses", "shelf", "tables", "book"] qual (defScope st) f cdv A outer s H E) (defBody st) (rg mk chk nl K c (d5 K) fun cls d _ H => E cls d H)) : FnOk P w K mg base (L2.CX P w) (k + 1) f fd ["self", "name", "verses"] (ri K c (fun n : Str => aE K n) (fun r : List (List Str) => aE K r) (ox mk chk nl)) := by
  refine F.ok Sc (fun vs H Q E h => ?_) (fun cdv A outer s H vs Q E hr h => ?_)
  · obtain ⟨v0, v1, v2, h, a, b, G, o, rfl, _⟩ := h; rfl
  · obtain ⟨v0, v1, v2, h, a, b, G, o, rfl, h1, h2, h3, h4, h5, h6⟩ := h
    cases h3
    refine ⟨_, body cdv A outer s H E hr, uj mk chk nl rfl h1 h2 h4 o h5 (fun e he cls d σ' H' s q => ?_) (fun h' he σ' H' G' g1 g2 g3 => ?_)⟩
    · subst he
      exact h6 cls d H' s q
    · subst he
      exact h6 H' G' g1 g2 g3
end
end Kj

namespace Kj
open PySem L2
def yr : Thing → Bool | .l _ => true | .s _ => false
def zD : Thing → Option (List (List Str)) | .l x => some x | .s _ => none
def lF (h : HallT) : Option (P2 (List (Str × BookT)) (List (Str × TableT))) := h.stands[h.done]?
section
variable {H0 : Hp} {ρ ρ' : List Slot} {K : PySem.W.Frag} {f fa fb : Bool} {ta tb te : TE} {α β γ : Type} {c : Addr}
theorem DQ {m : Option Thing} (h : DM H0 ρ te f (aE K) m) : DM H0 ρ te f (aE K) (m.bind zD) := fun x e => by
  obtain ⟨t, h1, h2⟩ := Option.bind_eq_some_iff.mp e
  cases t with
  | s y => cases h2
  | l y => cases h2; exact h _ h1
theorem yY {m : Option (List (List Str))} (h : DM H0 ρ te f (aE K) m) : DM H0 ρ te f (aE K) (m.map Thing.l) := fun x e => by
  obtain ⟨t, h1, rfl⟩ := Option.map_eq_some_iff.mp e
  exact h _ h1
theorem zd {m : Option Thing} (h : DM H0 ρ te fa (aE K) m) : DM H0 ρ (tCB (rIsi K) (tCons te (tCons (tC (.ty "list")) tNil))) true (aE K) (m.map yr) := Bi h fun x => by cases x <;> rfl
theorem Bc [Enc α] {m : Option (List α)} (h : DM H0 ρ te f (aE K) m) : DM H0 ρ (tCB (fun xs H Q => ∃ p ys, xs = [.ref p] ∧ ((SqL K H p ys ∧ ∀ l, H l = none → Q (.ref l) (upd H l (.tup ys))) ∨ (SqT K H p ys ∧ Q (.ref p) H))) (tCons te tNil)) f (aE K) (b1 oU m) := fun x e => by
  obtain ⟨xs, h1, h2⟩ := cC e
  cases h2
  intro σ H Hr Q E k
  refine h xs h1 σ H Hr _ E fun v H1 Hr1 x1 a1 => ?_
  cases a1 with
  | @lst p ys _ hs hA =>
    refine ⟨p, ys, rfl, .inl ⟨((bD f).trans x1.s).seq hs, fun r hn => ?_⟩⟩
    have xt : Ext H1 Hr1 (upd H1 r (.tup ys)) (upd Hr1 r (.tup ys)) := Ext.lay x1.s hn
    exact k _ _ _ (x1.trans xt) (.tup (SqT.of (ie f (E.ext x1).base hn)) (dpa_mono (cK f H0 xt.r) _ _ hA))
theorem mq {h : HallT} {v : V} {G : Hp} (a : (b8 K c h).p v G) : ∃ p dx lo so, v = .ref p ∧ G p = some (.ins c dx (hFs lo so h.done)) := by
  obtain ⟨p, dx, lo, so, ls, ss, e, h1, _⟩ := a
  exact ⟨p, dx, lo, so, e, h1.hp⟩
theorem Bh (k : HCls K c) {m : Option HallT} (h : DM H0 ρ te f (b8 K c) m) : DM H0 ρ (tFld K te "log") f (aE K) (m.map HallT.log) := fun x e σ H Hr Q E q => by
  obtain ⟨t, h1, rfl⟩ := Option.map_eq_some_iff.mp e
  refine h t h1 σ H Hr _ E fun v H1 Hr1 x1 a1 => ?_
  obtain ⟨p, dx, lo, so, ls, ss, rfl, h2, h3, _⟩ := a1
  refine ⟨p, c, dx, _, .ref lo, rfl, ((bD f).trans x1.s) _ _ h2.hp, k.cls, k.log, rfl, q _ H1 Hr1 x1 ?_⟩
  exact .lst (SqL.of h2.hl) (AllP.to_dpa (h3.mono u_))
theorem zg (k : HCls K c) {m : Option HallT} (h : DM H0 ρ te f (b8 K c) m) : DM H0 ρ (tFld K te "done") true (aE K) (m.map fun z => (z.done : Int)) := fun x e σ H Hr Q E q => by
  obtain ⟨t, h1, rfl⟩ := Option.map_eq_some_iff.mp e
  refine h t h1 σ H Hr _ E fun v H1 Hr1 x1 a1 => ?_
  obtain ⟨p, dx, lo, so, ls, ss, rfl, h2, h3, _⟩ := a1
  exact ⟨p, c, dx, _, .int _, rfl, ((bD f).trans x1.s) _ _ h2.hp, k.cls, k.done, rfl, q _ H1 Hr1 x1 (.int _)⟩
theorem tW {m : Option HallT} {Ex : XK} (h : DM H0 ρ te f (b8 K c) m) : DM H0 ρ (tCall (ip c) [] Ex (tCons te tNil)) f (qc K) (b1 lF m) := fun x e σ H Hr Q E q => by
  obtain ⟨t, h1, h2⟩ := cC e
  refine h t h1 σ H Hr _ E fun v H1 Hr1 x1 a1 => ?_
  obtain ⟨p, dx, lo, so, ls, ss, rfl, h3, h4, h5⟩ := a1
  obtain ⟨u, e1, e2⟩ := h5.at (j := t.done) (A := qc K x) (by rw [List.getElem?_map, show t.stands[t.done]? = some x from h2]; rfl)
  exact ⟨p, dx, lo, so, t.done, ls, ss, u, rfl, h3.mono ((bD f).trans x1.s), e1, q u H1 Hr1 x1 ((qc K x).mono _ _ _ u_ e2)⟩
theorem zk {A : Abs} {S : Spec} {As : List Abs} {R : Abs} {t : TA} {Ex : XK} {m : Str} (h : DE H0 ρ ta fa A) (hA : ∀ v G, A.p v G → ∃ a dx fs, v = .ref a ∧ G a = some (.ins c dx fs) ∧ fs.lookup m = none) (ha : DA H0 ρ t false As) (hs : S (A :: As) R) : DE H0 ρ (tMeth c m (spF S) [] Ex ta t) f R := fun σ H Hr Q E k => h σ H Hr _ E fun v H1 Hr1 x1 a1 => by
  obtain ⟨a, dx, fs, rfl, e, q⟩ := hA _ _ a1
  refine ⟨a, dx, fs, rfl, ((bD fa).trans x1.s) _ _ e, q, ha σ H1 Hr1 _ (E.ext x1) fun vs H2 Hr2 x2 a2 => ?_⟩
  rw [List.append_nil]
  refine ⟨_, R, hs, .cons (A.mono _ _ _ ((bD fa).trans (x2.r.trans x2.s)) a1) (a2.mono x2.s), fun v H3 s3 r3 => k v H3 _ (x1.trans (x2.trans (Ext.call (E.ext x1 |>.ext x2).sub (Same.refl _) s3))) ?_⟩
  have r4 := R.mono _ _ _ (iQ ((E.ext x1).ext x2).base ((E.ext x1).ext x2).sub (Same.refl _)) r3
  cases f
  · exact R.mono _ _ _ jg r4
  · exact r4
theorem q_ {A : Abs} {S : Spec} {As : List Abs} {R : Abs} {t : TA} {Ex : XK} {m : Str} (h : DE H0 ρ ta f A) (hA : ∀ v G, A.p v G → ∃ a dx fs, v = .ref a ∧ G a = some (.ins c dx fs) ∧ fs.lookup m = none) (ha : DA H0 ρ t f As) (hs : S (A :: As) R) : DE H0 ρ (tMeth c m (spR S) [] Ex ta t) f R := fun σ H Hr Q E k => h σ H Hr _ E fun v H1 Hr1 x1 a1 => by
  obtain ⟨a, dx, fs, rfl, e, q⟩ := hA _ _ a1
  refine ⟨a, dx, fs, rfl, ((bD f).trans x1.s) _ _ e, q, ha σ H1 Hr1 _ (E.ext x1) fun vs H2 Hr2 x2 a2 => ?_⟩
  rw [List.append_nil]
  have E2 := (E.ext x1).ext x2
  refine ⟨_, R, hp f Hr2 H0, hs, (bD f).trans x2.s, .cons (A.mono _ _ _ (cK f H0 x2.r) a1) a2, fun v H3 Hr3 x3 r3 => ?_⟩
  obtain ⟨x4, s4⟩ := Ext.sub E2.base E2.sub x3
  exact k v H3 _ ((x1.trans x2).trans x4) (R.mono _ _ _ s4 r3)
theorem lN {h : HallT} {m : Str} (hm : ∀ lo so n, (hFs lo so n).lookup m = none) : ∀ v G, (b8 K c h).p v G → ∃ a dx fs, v = .ref a ∧ G a = some (.ins c dx fs) ∧ fs.lookup m = none := fun v G a => by
  obtain ⟨p, dx, lo, so, rfl, e⟩ := mq a
  exact ⟨p, dx, _, rfl, e, hm lo so h.done⟩
theorem qY {C : γ → Abs} {F : HallT → Option γ} {ma : Option HallT} {m : Str} {Ex : XK} (h1 : DM H0 ρ ta fa (b8 K c) ma) (hm : ∀ lo so n, (hFs lo so n).lookup m = none) : DM H0 ρ (tMeth c m (spF (sp1 (b8 K c) C F)) [] Ex ta tNil) true C (b1 F ma) := fun x e => by
  obtain ⟨a, e1, h⟩ := cC e
  exact zk (h1 _ e1) (lN hm) ja ⟨a, x, rfl, h, rfl⟩
theorem uR {C : γ → Abs} {F : HallT → Option γ} {ma : Option HallT} {m : Str} {Ex : XK} (h1 : DM H0 ρ ta f (b8 K c) ma) (hm : ∀ lo so n, (hFs lo so n).lookup m = none) : DM H0 ρ (tMeth c m (spR (sp1 (b8 K c) C F)) [] Ex ta tNil) f C (b1 F ma) := fun x e => by
  obtain ⟨a, e1, h⟩ := cC e
  exact q_ (h1 _ e1) (lN hm) oH ⟨a, x, rfl, h, rfl⟩
theorem uQ {B : β → Abs} {C : γ → Abs} {F : HallT → β → Option γ} {ma : Option HallT} {mb : Option β} {m : Str} {Ex : XK} (h1 : DM H0 ρ ta f (b8 K c) ma) (h2 : DM H0 ρ tb f B mb) (hm : ∀ lo so n, (hFs lo so n).lookup m = none) : DM H0 ρ (tMeth c m (spR (sp2 (b8 K c) B C F)) [] Ex ta (tCons tb tNil)) f C (b2 F ma mb) := fun x e => by
  obtain ⟨a, b, e1, e2, h⟩ := cq e
  exact q_ (h1 _ e1) (lN hm) (mP (h2 _ e2) oH) ⟨a, b, x, rfl, h, rfl⟩
end
end Kj

namespace Kj
open PySem L2
def jj : HallT := ⟨[], 0, [⟨[], []⟩]⟩
def l3 (K : PySem.W.Frag) (c : Addr) : Sp := fun vs H Q E => ∃ x dx, vs = [.ref x] ∧ H x = some (.ins c dx []) ∧ ∀ H' G, Same (rm H x) H' → (∀ a o, G a = some o → H' a = some o ∧ (a = x ∨ H a = none)) → (b8 K c jj).p (.ref x) G → Q .non H'
def uf (K : PySem.W.Frag) : TS := tSeq (sFld K (tVar 0) (tLst tNil) "log") (tSeq (sFld K (tVar 0) (tC (.int 0)) "done") (tSeq (sFld K (tVar 0) (tLst (tCons (tTup (tCons tDNewK (tCons tDNewK tNil))) tNil)) "stands") tNext))
section
variable {K : PySem.W.Frag} {c : Addr} {σ : St} {H : Hp} {D : Ends}
theorem uh {ta tv : TE} {f : Str} {u : TS} (h : tv σ H fun y H1 => ta σ H1 fun x H2 => ∃ a C dx fs, x = .ref a ∧ H2 a = some (.ins C dx fs) ∧ Cls K C ∧ NoAttr K C f ∧ fs.length < 1000 ∧ u D σ (upd H2 a (.ins C dx (putF f y fs)))) : tSeq (sFld K ta tv f) u D σ H := h
theorem wR (k : HCls K c) {x dx : Addr} (hv : σ[0]? = some (some (.ref x))) (hx : H x = some (.ins c dx []))
    (q : ∀ H' G, Same (rm H x) H' → (∀ a o, G a = some o → H' a = some o ∧ (a = x ∨ H a = none)) → (b8 K c jj).p (.ref x) G → D.nx σ H') : uf K D σ H := by
  unfold uf
  refine uh ⟨Nat.zero_le _, fun lo hlo => ?_⟩
  have xlo : x ≠ lo := ne_of_none hx hlo
  refine ⟨.ref x, hv, x, c, dx, [], rfl, by rw [upd_ne xlo]; exact hx, k.cls, k.log, by decide, ?_⟩
  have e1 : putF "log" (V.ref lo) [] = ([("log", .ref lo)] : List (Str × V)) := rfl
  rw [e1]
  refine uh ⟨.ref x, hv, x, c, dx, [("log", .ref lo)], rfl, upd_same, k.cls, k.done, (by show 1 < 1000; decide), ?_⟩
  have e2 : putF "done" (V.int 0) [("log", .ref lo)] = ([("log", .ref lo), ("done", .int 0)] : List (Str × V)) := by
    unfold putF; rw [if_neg (by decide)]; rfl
  rw [e2]
  refine uh fun d1 h1 d2 h2 => ⟨by show 2 ≤ sizeLine; rw [sizeLine_eq]; decide, fun t ht => ⟨by show 1 ≤ sizeLine; rw [sizeLine_eq]; decide, fun so hso => ?_⟩⟩
  have d1x : d1 ≠ x := fun z => by rw [z, upd_same] at h1; cases h1
  have d1lo : d1 ≠ lo := fun z => by rw [upd_ne d1x, upd_ne d1x, z, upd_same] at h1; cases h1
  have H1n : H d1 = none := by rw [upd_ne d1x, upd_ne d1x, upd_ne d1lo] at h1; exact h1
  have d2d1 : d2 ≠ d1 := fun z => by rw [z, upd_same] at h2; cases h2
  have d2x : d2 ≠ x := fun z => by rw [upd_ne d2d1, z, upd_same] at h2; cases h2
  have d2lo : d2 ≠ lo := fun z => by rw [upd_ne d2d1, upd_ne d2x, upd_ne d2x, z, upd_same] at h2; cases h2
  have H2n : H d2 = none := by rw [upd_ne d2d1, upd_ne d2x, upd_ne d2x, upd_ne d2lo] at h2; exact h2
  have td2 : t ≠ d2 := fun z => by rw [z, upd_same] at ht; cases ht
  have td1 : t ≠ d1 := fun z => by rw [upd_ne td2, z, upd_same] at ht; cases ht
  have tx : t ≠ x := fun z => by rw [upd_ne td2, upd_ne td1, z, upd_same] at ht; cases ht
  have tlo : t ≠ lo := fun z => by rw [upd_ne td2, upd_ne td1, upd_ne tx, upd_ne tx, z, upd_same] at ht; cases ht
  have Htn : H t = none := by rw [upd_ne td2, upd_ne td1, upd_ne tx, upd_ne tx, upd_ne tlo] at ht; exact ht
  have st : so ≠ t := fun z => by rw [z, upd_same] at hso; cases hso
  have sd2 : so ≠ d2 := fun z => by rw [upd_ne st, z, upd_same] at hso; cases hso
  have sd1 : so ≠ d1 := fun z => by rw [upd_ne st, upd_ne sd2, z, upd_same] at hso; cases hso
  have sx : so ≠ x := fun z => by rw [upd_ne st, upd_ne sd2, upd_ne sd1, z, upd_same] at hso; cases hso
  have slo : so ≠ lo := fun z => by rw [upd_ne st, upd_ne sd2, upd_ne sd1, upd_ne sx, upd_ne sx, z, upd_same] at hso; cases hso
  have Hsn : H so = none := by rw [upd_ne st, upd_ne sd2, upd_ne sd1, upd_ne sx, upd_ne sx, upd_ne slo] at hso; exact hso
  refine ⟨.ref x, hv, x, c, dx, [("log", .ref lo), ("done", .int 0)], rfl, ?_, k.cls, k.stands, (by show 2 < 1000; decide), ?_⟩
  · rw [upd_ne sx.symm, upd_ne tx.symm, upd_ne d2x.symm, upd_ne d1x.symm, upd_same]
  have e3 : putF "stands" (V.ref so) [("log", .ref lo), ("done", .int 0)] = hFs lo so 0 := by
    unfold putF; rw [if_neg (by decide)]; unfold putF; rw [if_neg (by decide)]; rfl
  rw [e3]
  generalize hF : upd (upd (upd (upd (upd (upd (upd (upd H lo (.lst [])) x (.ins c dx [("log", .ref lo)])) x (.ins c dx [("log", .ref lo), ("done", .int 0)])) d1 (.dK [])) d2 (.dK [])) t (.tup [.ref d1, .ref d2])) so (.lst [.ref t])) x (.ins c dx (hFs lo so 0)) = H'
  have fx : H' x = some (.ins c dx (hFs lo so 0)) := by rw [← hF, upd_same]
  have fs : H' so = some (.lst [.ref t]) := by rw [← hF, upd_ne sx, upd_same]
  have ft : H' t = some (.tup [.ref d1, .ref d2]) := by rw [← hF, upd_ne tx, upd_ne st.symm, upd_same]
  have f2 : H' d2 = some (.dK []) := by rw [← hF, upd_ne d2x, upd_ne sd2.symm, upd_ne td2.symm, upd_same]
  have f1 : H' d1 = some (.dK []) := by rw [← hF, upd_ne d1x, upd_ne sd1.symm, upd_ne td1.symm, upd_ne d2d1.symm, upd_same]
  have fl : H' lo = some (.lst []) := by rw [← hF, upd_ne xlo.symm, upd_ne slo.symm, upd_ne tlo.symm, upd_ne d2lo.symm, upd_ne d1lo.symm, upd_ne xlo.symm, upd_ne xlo.symm, upd_same]
  have fo : ∀ a o, H a = some o → a ≠ x → H' a = some o := fun a o z n => by
    have ne : ∀ b, H b = none → a ≠ b := fun b hb => ne_of_none z hb
    rw [← hF, upd_ne n, upd_ne (ne _ Hsn), upd_ne (ne _ Htn), upd_ne (ne _ H2n), upd_ne (ne _ H1n), upd_ne n, upd_ne n, upd_ne (ne _ hlo)]; exact z
  let G : Hp := fun a => if a = x ∨ H a = none then H' a else none
  have gG : ∀ a, (a = x ∨ H a = none) → G a = H' a := fun a z => if_pos z
  refine q H' G (fun a o z => fo a o (k8 z).1 (k8 z).2) (fun a o z => ?_) ⟨x, dx, lo, so, [], [.ref t], rfl, ⟨by rw [gG x (.inl rfl)]; exact fx, by rw [gG lo (.inr hlo)]; exact fl, by rw [gG so (.inr Hsn)]; exact fs, xlo, sx.symm, slo.symm⟩, .nil, .cons ?_ .nil⟩
  · have z' : (if a = x ∨ H a = none then H' a else none) = some o := z
    by_cases y : a = x ∨ H a = none
    · rw [if_pos y] at z'; exact ⟨z', y⟩
    · rw [if_neg y] at z'; cases z'
  · refine ⟨t, [.ref d1, .ref d2], rfl, SqT.of (hY.mpr ⟨⟨tx, tlo, st.symm⟩, by rw [gG t (.inr Htn)]; exact ft⟩), .cons ⟨d1, [], rfl, .inl (hY.mpr ⟨⟨d1x, d1lo, sd1.symm⟩, by rw [gG d1 (.inr H1n)]; exact f1⟩), .nil⟩ (.cons ⟨d2, [], rfl, .inl (hY.mpr ⟨⟨d2x, d2lo, sd2.symm⟩, by rw [gG d2 (.inr H2n)]; exact f2⟩), .nil⟩ .nil)⟩
end
section
variable {P : Program} {w : World} {K : PySem.W.Frag} {mg : Str → Option Value} {base : Heap} {x qual : Str} {st : Stmt} {f : Addr} {fd : FuncData} {c : Addr} {k : Nat}
theorem uy (F : FnP K x qual st f fd) (Sc : FnScope ["self"] ["self"] (defScope st)) (hc : HCls K c)
    (body : ∀ (cdv : Value) (A : Around) (outer : List Env) (s : Shared) (H : Hp) (E : XK), PSs (cxOf CX0 P w K mg base ["self"] qual (defScope st) f cdv A outer s H E).nox (defBody st) (uf K)) : FnOk P w K mg base CX0 (k + 1) f fd ["self"] (l3 K c) := by
  refine F.ok Sc (fun vs H Q E h => ?_) (fun cdv A outer s H vs Q E hr h => ?_)
  · obtain ⟨x, dx, rfl, _⟩ := h; rfl
  · obtain ⟨x, dx, rfl, h1, q⟩ := h
    exact ⟨_, (body cdv A outer s H E).nox, wR hc rfl h1 q⟩
theorem z_ {X : Cx} {C : Addr} {k : Nat} {ps : List Str} {sp : Sp} {x : Str} {p pos : Pos} (D : BP X.prog X.w X.K X.mg X.base x C k ps sp) (hr : Room (k + 1) X.A) (hg : Gl X x) (hdb : (x == ("__debug__" : Str)) = false := by decide) : PE X (.Call (.Name x p) [] [] pos) (tMake C sp [] E0 tNil) := by
  obtain ⟨f, fd, h1, h2, h3, h4⟩ := D
  exact pe_make0 h1 h4 hr hg h2 h3 .nil pass0 hdb
end
section
variable {H0 : Hp} {ρ ρ' : List Slot} {K : PySem.W.Frag} {f fa fb : Bool} {ta tb tc te : TE} {α β γ : Type} {c : Addr} {A2 : α → Abs} {A3 : β → Abs} {F : HallT → α → β → Option (Rs HallT)} {m : Str}
theorem wZ : DMr H0 ρ (tMake c (l3 K c) [] E0 tNil) (b8 K c) (some jj) := fun h e σ H Hr Q E k => by
  cases e
  intro x dx hx hdx hne
  refine ⟨x, dx, rfl, upd_same, fun H' G s g a => ⟨rfl, k (.ref x) H' G (fun b o q => s b o ?_) a fun b o q => ⟨(g b o q).1, ?_⟩⟩⟩
  · have n1 : b ≠ x := ne_of_none q hx
    rw [jC n1, upd_ne n1, upd_ne (ne_of_none q hdx)]; exact q
  · rcases (g b o q).2 with z | z
    · rw [z]; exact hx
    · by_cases n1 : b = x
      · rw [n1]; exact hx
      · rw [upd_ne n1] at z
        by_cases n2 : b = dx
        · rw [n2]; exact hdx
        · rw [upd_ne n2] at z; exact z
structure HallK (K : PySem.W.Frag) (c : Addr) (Ah : HallT → Abs) : Prop where
  up : ∀ h v G, (Ah h).p v G → (b8 K c h).p v G
  dn : ∀ h h' v G G', (Ah h).p v G → (b8 K c h').p v G' → (Ah h').p v G'
def vK (K : PySem.W.Frag) (c : Addr) (v0 : V) (h : HallT) : Abs := ⟨fun v G => v = v0 ∧ (b8 K c h).p v G, fun v G G' s z => ⟨z.1, (b8 K c h).mono _ _ _ s z.2⟩⟩
theorem AD {v0 : V} : HallK K c (vK K c v0) := ⟨fun _ _ _ q => q.2, fun _ _ _ _ _ q q' => ⟨q.1, q'⟩⟩
theorem wQ {σ : St} {H Hr : Hp} {i : Nat} {h : HallT} {a : α} {b : β} {o : Rs HallT} {Q : VK} {Ex : XK} {Ah : HallT → Abs} (hK : HallK K c Ah) (E : EnvOk H0 σ ρ H Hr) (hi : ρ[i]? = some (.reg (Ah h))) (h2 : DE H0 ρ ta fa (A2 a)) (h3 : DE H0 ρ tb fb (A3 b)) (hF : F h a b = some o) (hm : ∀ lo so n, (hFs lo so n).lookup m = none)
    (kx : ∀ e, o = .ex e → ∀ cls d H' Hr', Ext H Hr H' Hr' → xP K e cls d H' → Ex cls d H')
    (kn : ∀ h', o = .ok h' → ∀ H' Hr', EnvOk H0 σ (ρ.set i (.reg (Ah h'))) H' Hr' → Same Hr Hr' → Q .non H') :
    (tVar i) σ H fun x H1 => ∃ a dx fs, x = .ref a ∧ H1 a = some (.ins c dx fs) ∧ fs.lookup m = none ∧ (tCons ta (tCons tb tNil)) σ H1 fun vs H2 => ri K c A2 A3 F (x :: vs) H2 Q Ex := by
  obtain ⟨v, G, w1, g1, g2, _⟩ := E.regAt hi
  obtain ⟨p, dx, lo, so, rfl, e⟩ := mq (hK.up _ _ _ g1)
  refine ⟨.ref p, w1, p, dx, _, rfl, (g2 _ _ e).1, hm lo so h.done, h2 σ H Hr _ E fun v1 H1 Hr1 x1 a1 => h3 σ H1 Hr1 _ (E.ext x1) fun v2 H2 Hr2 x2 a2 => ?_⟩
  have E2 := (E.ext x1).ext x2
  obtain ⟨v', G2, w2, g3, g4, cl, _⟩ := E2.regAt hi
  rw [w1] at w2
  cases w2
  refine ⟨.ref p, v1, v2, h, a, b, G2, o, rfl, fun a o q => (g4 a o q).1, hK.up _ _ _ g3, (A2 a).mono _ _ _ (((bD fa).trans x1.s).trans x2.h) a1, (A3 b).mono _ _ _ ((bD fb).trans x2.s) a2, hF, ?_⟩
  cases o with
  | ex e' => exact fun cls d H' s q => kx e' rfl cls d H' _ (x1.trans (x2.trans (Ext.call E2.sub (Same.refl _) s))) q
  | ok h' => exact fun H' G' k1 k2 k3 => kn h' rfl H' Hr2 (cl H' G' _ k1 k2 (hK.dn _ _ _ _ _ g3 k3)) (x1.r.trans x2.r)
end
end Kj

namespace Kj
open PySem L2
def xC (K : PySem.W.Frag) (c : Addr) {α β γ : Type} (A2 : α → Abs) (A3 : β → Abs) (Ar : γ → Abs) (F : HallT → α → β → Option (HallT × γ)) : Sp := fun vs H Q E => ∃ v0 v1 v2 h a b G Hv h' r, vs = [v0, v1, v2] ∧ Same G H ∧ (b8 K c h).p v0 G ∧ Same Hv H ∧ (∀ x o, Hv x = some o → G x = none) ∧ (A2 a).p v1 Hv ∧ (A3 b).p v2 Hv ∧ F h a b = some (h', r) ∧
  ∀ v H' G' Hn, (∀ x o, H x = some o → G x = none → H' x = some o) → (∀ x o, G' x = some o → H' x = some o ∧ (G x ≠ none ∨ H x = none)) → (b8 K c h').p v0 G' → Same Hn H' → (∀ x o, Hn x = some o → G' x = none) → (Ar r).p v Hn → Q v H'
def aHW (K : PySem.W.Frag) (c : Addr) (v0 : V) (h' : HallT) (R : Abs) : Abs := ⟨fun v G => ∃ GH : Hp, Same GH G ∧ (b8 K c h').p v0 GH ∧ R.p v (mns G GH), fun v G G' s z => by
  obtain ⟨GH, s1, q, r⟩ := z
  exact ⟨GH, s1.trans s, q, R.mono _ _ _ (fun a o z => bu.mpr ⟨(bu.mp z).1, s _ _ (bu.mp z).2⟩) r⟩⟩
theorem uJ {H G : Hp} {v0 v1 v2 : V} {A B C : Abs} (n : Nat) (hA : A.p v0 G) (hB : B.p v1 (mns H G)) (hC : C.p v2 (mns H G)) (hG : ∀ x o, G x = some o → H x = some o) : EnvOk (mns H G) ([some v0, some v1, some v2] ++ List.replicate n none) ([.reg A, .dat B, .dat C] ++ List.replicate n .no) H (mns H G) := by
  have cls : ∀ (i : Nat) (s : Slot), ([Slot.reg A, .dat B, .dat C] ++ List.replicate n .no)[i]? = some s → (i = 0 ∧ s = .reg A) ∨ (i = 1 ∧ s = .dat B) ∨ (i = 2 ∧ s = .dat C) ∨ s = .no := fun i s h => by
    match i, h with
    | 0, h => cases h; exact .inl ⟨rfl, rfl⟩
    | 1, h => cases h; exact .inr (.inl ⟨rfl, rfl⟩)
    | 2, h => cases h; exact .inr (.inr (.inl ⟨rfl, rfl⟩))
    | i + 3, h =>
      have h' : (List.replicate n Slot.no)[i]? = some s := by simpa using h
      rw [List.getElem?_replicate] at h'
      split at h' <;> cases h'
      exact .inr (.inr (.inr rfl))
  refine ⟨fun a o q => (bu.mp q).2, fun a o q => (bu.mp q).2, by simp, fun i s h => ?_, fun i j p B1 B2 _ hi _ _ _ => ?_, fun _ => G, fun i A1 h => ?_, fun i j A1 A2 n h h' => ?_, fun i j A1 B1 p _ h' => ?_⟩
  · rcases cls i s h with ⟨rfl, rfl⟩ | ⟨rfl, rfl⟩ | ⟨rfl, rfl⟩ | rfl
    · trivial
    · exact ⟨v1, rfl, hB⟩
    · exact ⟨v2, rfl, hC⟩
    · trivial
  · rcases cls i _ hi with ⟨_, e⟩ | ⟨_, e⟩ | ⟨_, e⟩ | e <;> cases e
  · rcases cls i _ h with ⟨rfl, e⟩ | ⟨_, e⟩ | ⟨_, e⟩ | e
    · cases e
      have nn : ∀ (a : Addr) (o : HO), G a = some o → mns H G a = none := fun a o q => by
        cases y : mns H G a with
        | none => rfl
        | some w => have := (bu.mp y).1; rw [q] at this; cases this
      exact ⟨⟨v0, rfl, hA⟩, fun a o q => ⟨hG a o q, nn a o q, nn a o q⟩⟩
    · cases e
    · cases e
    · cases e
  · rcases cls i _ h with ⟨rfl, e⟩ | ⟨_, e⟩ | ⟨_, e⟩ | e
    · rcases cls j _ h' with ⟨rfl, e'⟩ | ⟨_, e'⟩ | ⟨_, e'⟩ | e'
      · exact absurd rfl n
      · cases e'
      · cases e'
      · cases e'
    · cases e
    · cases e
    · cases e
  · rcases cls j _ h' with ⟨_, e⟩ | ⟨_, e⟩ | ⟨_, e⟩ | e <;> cases e
section
variable {P : Program} {w : World} {K : PySem.W.Frag} {mg : Str → Option Value} {base : Heap}
theorem AF {α β γ : Type} {A2 : α → Abs} {A3 : β → Abs} {Ar : γ → Abs} {F' : HallT → α → β → Option (HallT × γ)} {x qual : Str} {st : Stmt} {f c : Addr} {fd : FuncData} {N ps : List Str} {k : Nat} (F : FnP K x qual st f fd) (Sc : FnScope N ps (defScope st)) (len : ps.length = 3)
    (body : ∀ (cdv : Value) (A : Around) (outer : List Env) (s : Shared) (H : Hp) (E : XK), Room k (A.deeper (PyProof.Rows.envOfC qual (defScope st) s.heap.objs.size f cdv)) →
      ∃ t, PSs (cxOf CX0 P w K mg base N qual (defScope st) f cdv A outer s H E).nox (defBody st) t ∧ ∀ h a b h' r, F' h a b = some (h', r) →
        (h' = h ∧ ∀ H0, DS C0 H0 ([.dat (b8 K c h), .dat (A2 a), .dat (A3 b)] ++ List.replicate (N.length - 3) Slot.no) t (fun _ => False) (Ar r)) ∨
        ∀ H0 v0, DS C0 H0 ([.reg (vK K c v0 h), .dat (A2 a), .dat (A3 b)] ++ List.replicate (N.length - 3) Slot.no) t (fun _ => False) (aHW K c v0 h' (Ar r))) : FnOk P w K mg base CX0 (k + 1) f fd ps (xC K c A2 A3 Ar F') := by
  refine F.ok Sc (fun vs H Q E h => ?_) (fun cdv A outer s H vs Q E hr h => ?_)
  · obtain ⟨v0, v1, v2, h, a, b, G, Hv, h', r, rfl, _⟩ := h
    rw [len]; rfl
  · obtain ⟨v0, v1, v2, h, a, b, G, Hv, h', r, rfl, h1, h2, h3, h4, h5, h6, h7, h8⟩ := h
    obtain ⟨t, p, d⟩ := body cdv A outer s H E hr
    rcases d h a b h' r h7 with ⟨e, d⟩ | d
    · subst e
      refine ⟨t, p.nox, d H _ H H _ (gW (As := [b8 K c h', A2 a, A3 b]) (vs := [v0, v1, v2]) (N.length - 3) (.cons ((b8 K c h').mono _ _ _ h1 h2) (.cons ((A2 a).mono _ _ _ h3 h5) (.cons ((A3 b).mono _ _ _ h3 h6) .nil)))) (fun _ _ H' _ n _ _ => n.elim) (fun v H' s _ q => ?_) (KX.no fun _ _ _ _ z => z)⟩
      refine h8 v H' G (mns H' H) (fun x o q _ => s _ _ q) (fun x o q => ⟨s _ _ (h1 _ _ q), .inl (by rw [q]; intro z; cases z)⟩) h2 jg (fun x o q => h1.free (bu.mp q).1) q
    · have up : Same Hv (mns H G) := fun x o q => bu.mpr ⟨h4 x o q, h3 _ _ q⟩
      refine ⟨t, p.nox, d (mns H G) v0 _ H (mns H G) _ (uJ (N.length - 3) ⟨rfl, h2⟩ ((A2 a).mono _ _ _ up h5) ((A3 b).mono _ _ _ up h6) h1) (fun _ _ H' _ n _ _ => n.elim) (fun v H' s _ q => ?_) (KX.no fun _ _ _ _ z => z)⟩
      obtain ⟨GH, s1, q1, q2⟩ := q
      refine h8 v H' GH (mns (mns H' (mns H G)) GH) (fun x o y g => s _ _ (bu.mpr ⟨g, y⟩)) (fun x o y => ?_) q1 (fun x o y => (bu.mp (bu.mp y).2).2) (fun x o y => (bu.mp y).1) q2
      obtain ⟨y1, y2⟩ := bu.mp (s1 _ _ y)
      refine ⟨y2, ?_⟩
      cases z : G x with
      | some _ => exact .inl (by intro z; cases z)
      | none =>
        refine .inr ?_
        cases z2 : H x with
        | none => rfl
        | some u => rw [bu.mpr ⟨z, z2⟩] at y1; cases y1
end
section
variable {Gw : WK} {W : WX} {H0 : Hp} {ρ ρ' : List Slot} {K : PySem.W.Frag} {f fa fb : Bool} {ta tb tc te : TE} {α β γ δ S S1 R : Type} {c : Addr} {A2 : α → Abs} {A3 : β → Abs} {F : HallT → α → β → Option (Rs HallT)} {m : Str} {A : R → Abs} {Bs : S → List Slot} {t u w : TS}
theorem BC {i : Nat} {v0 : V} {h : HallT} {Ar : δ → Abs} {m : Option δ} (hi : ρ[i]? = some (.reg (vK K c v0 h))) (hd : DM H0 ρ te true Ar m) : DB Gw H0 ρ (tSeq (tRet te) u) (fun r => aHW K c v0 h (Ar r)) (b1 (fun r => some (Fl.rt r)) m) Bs := fun fl e => by
  obtain ⟨x, e1, e2⟩ := cC e
  cases e2
  intro σ H Hr D E kn kr kx
  refine hd x e1 σ H Hr _ E fun v H1 Hr1 x1 a1 => ?_
  have E1 := E.ext x1
  obtain ⟨v', G, w1, g1, g2, _⟩ := E1.regAt hi
  refine kr v H1 E1.base (x1.r.trans E1.sub) ⟨G, fun a o q => bu.mpr ⟨(g2 a o q).2.2, (g2 a o q).1⟩, by rw [← g1.1]; exact g1.2, (Ar x).mono _ _ _ (fun a o q => ?_) a1⟩
  obtain ⟨q1, q2⟩ := bu.mp q
  refine bu.mpr ⟨?_, bu.mpr ⟨q1, E1.sub _ _ q2⟩⟩
  cases y : G a with
  | none => rfl
  | some z => rw [(g2 a z y).2.1] at q2; cases q2
theorem BA {Ah : HallT → Abs} {i : Nat} {h h' : HallT} {l : HdL} {Wo : WX} {ma : Option α} {mb : Option β} {a : α} {b : β} {k : Option (Fl S R)} (hK : HallK K c Ah) (hi : ρ[i]? = some (.reg (Ah h))) (h2 : DM H0 ρ ta fa A2 ma) (h3 : DM H0 ρ tb fb A3 mb) (e2 : ma = some a) (e3 : mb = some b) (hF : F h a b = some (.ok h')) (hm : ∀ lo so n, (hFs lo so n).lookup m = none)
    (hk : DB Gw H0 (ρ.set i (.reg (Ah h'))) u A k Bs) : DB Gw H0 ρ (tSeq (xw Gw.K Wo l fun W => tSeq (tDrop (ue c m (ri K c A2 A3 F) (WE W) (tVar i) (tCons ta (tCons tb tNil)))) tNext) u) A k Bs := fun fl e => by
  refine mK (ρ1 := ρ.set i (.reg (Ah h'))) (fun σ H Hr D E kn kr kx => ?_) (hk fl e)
  exact wQ (m := m) hK E hi (h2 a e2) (h3 b e3) hF hm (fun e z => by cases z) fun h2 z H' Hr' E' s => by
    cases z
    exact kn _ _ _ Hr' rfl E' s
theorem yQ {f' : Bool} {Ax : δ → Abs} {h : HallT} {a : α} {b : β} {e : Exn} {mh : Option HallT} {ma : Option α} {mb : Option β} (h1 : DM H0 ρ tc f (b8 K c) mh) (h2 : DM H0 ρ ta fa A2 ma) (h3 : DM H0 ρ tb fb A3 mb) (e1 : mh = some h) (e2 : ma = some a) (e3 : mb = some b) (hF : F h a b = some (.ex e)) (hm : ∀ lo so n, (hFs lo so n).lookup m = none) :
    DMx W K H0 ρ (ue c m (ri K c A2 A3 F) (WE W) tc (tCons ta (tCons tb tNil))) f' Ax (some (.ex e)) := ⟨fun x z => (by cases z), fun e' z => by
  cases z
  intro σ H Hr Q E k
  refine h1 h e1 σ H Hr _ E fun v H1 Hr1 x1 a1 => ?_
  obtain ⟨p, dx, lo, so, rfl, q⟩ := mq a1
  have s1 : Same (hp f Hr1 H0) H1 := (bD f).trans x1.s
  refine ⟨p, dx, _, rfl, s1 _ _ q, hm lo so h.done, h2 a e2 σ H1 Hr1 _ (E.ext x1) fun v1 H2 Hr2 x2 a2 => h3 b e3 σ H2 Hr2 _ ((E.ext x1).ext x2) fun v2 H3 Hr3 x3 a3 => ?_⟩
  have E3 := ((E.ext x1).ext x2).ext x3
  refine ⟨.ref p, v1, v2, h, a, b, hp f Hr1 H0, .ex e, rfl, s1.trans (x2.h.trans x3.h), a1, (A2 a).mono _ _ _ ((bD fa).trans (x2.s.trans x3.h)) a2, (A3 b).mono _ _ _ ((bD fb).trans x3.s) a3, hF, ?_⟩
  exact fun cls d H' s q => k cls d H' _ (x1.trans (x2.trans (x3.trans (Ext.call E3.sub (Same.refl _) s)))) q⟩
end
end Kj

namespace Kj
open PySem L2
def wm (K : PySem.W.Frag) (c : Addr) {α β : Type} (A2 : α → Abs) (A3 : β → Abs) (F : HallT → α → β → Option (Rs HallT)) : Sp := fun vs H Q E => ∃ v0 v1 v2 h a b G h', vs = [v0, v1, v2] ∧ Same G H ∧ (b8 K c h).p v0 G ∧ (A2 a).p v1 H ∧ (A3 b).p v2 H ∧ F h a b = some (.ok h') ∧
  ∀ H' G', (∀ a o, H a = some o → G a = none → H' a = some o) → (∀ a o, G' a = some o → H' a = some o ∧ (G a ≠ none ∨ H a = none)) → (b8 K c h').p v0 G' → Q .non H'
theorem FnOk.calmH {P : Program} {w : World} {K : PySem.W.Frag} {mg : Str → Option Value} {base : Heap} {k : Nat} {f c : Addr} {fd : FuncData} {ps : List Str} {α β : Type} {A2 : α → Abs} {A3 : β → Abs} {F' : HallT → α → β → Option (Rs HallT)} (F : FnOk P w K mg base (L2.CX P w) k f fd ps (ri K c A2 A3 F')) :
    FnOk P w K mg base CX0 k f fd ps (wm K c A2 A3 F') := by
  have up : ∀ vs H Q E, wm K c A2 A3 F' vs H Q E → ri K c A2 A3 F' vs H Q E0 := fun vs H Q E h => by
    obtain ⟨v0, v1, v2, h, a, b, G, h', e, h1, h2, h3, h4, h5, h6⟩ := h
    exact ⟨v0, v1, v2, h, a, b, G, .ok h', e, h1, h2, h3, h4, h5, h6⟩
  refine ⟨fun vs H Q E h => F.len vs H Q E0 (up vs H Q E h), fun A outer s H args us vs Q E hr he hb hv hs => ?_⟩
  refine codeAny_mono (F.run A outer s H args us vs Q E0 hr he hb hv (up vs H Q E hs)) fun r s' q => ?_
  cases r with
  | ok fl => cases fl <;> exact q
  | error e =>
    obtain ⟨_, _, _, _, _, _, _, _, _, _, _, _, z⟩ := q
    exact z.elim
def pf {α β S R : Type} (F : HallT → α → β → Option (Rs HallT)) (h : HallT) (ma : Option α) (mb : Option β) (k : HallT → Option (Fl S R)) : Option (Fl S R) := b2 (fun a b => (F h a b).bind fun o => match o with | .ok h' => k h' | .ex _ => none) ma mb
def o1 {α β γ : Type} [Enc γ] [DecidableEq γ] (F : HallT → α → β → Option (HallT × γ)) (h : HallT) (ma : Option α) (mb : Option β) (md : Option γ) : Option (HallT × Bool) := b3 (fun a b d => (F h a b).bind fun r => (ez r.2 d).map fun z => (r.1, z)) ma mb md
section
variable {Gw : WK} {W : WX} {H0 : Hp} {ρ ρ' : List Slot} {K : PySem.W.Frag} {f fa fb fd : Bool} {ta tb tc td te : TE} {α β γ δ S S1 R : Type} {c : Addr} {A2 : α → Abs} {A3 : β → Abs} {m : Str} {A : R → Abs} {Bs : S → List Slot} {t u w : TS} {i : Nat} {h : HallT} {ma : Option α} {mb : Option β}
theorem zz {F : HallT → α → β → Option (Rs HallT)} {k : HallT → Option (Fl S R)} {Ex : XK} (hi : ρ[i]? = some (.reg (b8 K c h))) (h2 : DM H0 ρ ta fa A2 ma) (h3 : DM H0 ρ tb fb A3 mb) (hm : ∀ lo so n, (hFs lo so n).lookup m = none)
    (hk : ∀ h', DB Gw H0 (ρ.set i (.reg (b8 K c h'))) u A (k h') Bs) : DB Gw H0 ρ (tSeq (tDrop (tMeth c m (wm K c A2 A3 F) [] Ex (tVar i) (tCons ta (tCons tb tNil)))) u) A (pf F h ma mb k) Bs := fun fl e => by
  obtain ⟨a, b, e1, e2, e3⟩ := cq e
  obtain ⟨o, e4, e5⟩ := nZ e3
  cases o with
  | ex e => cases e5
  | ok h' =>
    refine mK (ρ1 := ρ.set i (.reg (b8 K c h'))) (fun σ H Hr D E kn kr kx => ?_) (hk h' fl e5)
    obtain ⟨v, G, w1, g1, g2, _⟩ := E.regAt hi
    obtain ⟨p, dx, lo, so, rfl, e⟩ := mq g1
    refine ⟨.ref p, w1, p, dx, _, rfl, (g2 _ _ e).1, hm lo so h.done, h2 a e1 σ H Hr _ E fun v1 H1 Hr1 x1 a1 => h3 b e2 σ H1 Hr1 _ (E.ext x1) fun v2 H2 Hr2 x2 a2 => ?_⟩
    have E2 := (E.ext x1).ext x2
    obtain ⟨v', G2, w2, g3, g4, cl, _⟩ := E2.regAt hi
    rw [w1] at w2
    cases w2
    exact ⟨.ref p, v1, v2, h, a, b, G2, h', rfl, fun a o q => (g4 a o q).1, g3, (A2 a).mono _ _ _ (((bD fa).trans x1.s).trans x2.h) a1, (A3 b).mono _ _ _ ((bD fb).trans x2.s) a2, e4, fun H' G' k1 k2 k3 => kn _ _ _ Hr2 rfl (cl H' G' _ k1 k2 k3) (x1.r.trans x2.r)⟩
def DTh (K : PySem.W.Frag) (c : Addr) (H0 : Hp) (ρ : List Slot) (i : Nat) (t : TT) (m : Option (HallT × Bool)) : Prop := ∀ r, m = some r → ∀ (σ : St) (H Hr : Hp) (Q : Bool → Hp → Prop), EnvOk H0 σ ρ H Hr →
  (∀ H' Hr', EnvOk H0 σ (ρ.set i (.reg (b8 K c r.1))) H' Hr' → Same Hr Hr' → Q r.2 H') → t σ H Q
theorem wY [Enc γ] [DecidableEq γ] {F : HallT → α → β → Option (HallT × γ)} {md : Option γ} {Ex Ey : XK} (hi : ρ[i]? = some (.reg (b8 K c h))) (h2 : DM H0 ρ ta fa A2 ma) (h3 : DM H0 ρ tb fb A3 mb) (h4 : ∀ h', DM H0 (ρ.set i (.reg (b8 K c h'))) td fd (aE K) md) (hd : Enc.dep γ < 9 := by decide) :
    DTh K c H0 ρ i (tB (tCall (spF (jy K 9)) [] Ey (tCons (tCall (xC K c A2 A3 (fun z : γ => aE K z) F) [] Ex (tCons (tVar i) (tCons ta (tCons tb tNil)))) (tCons td tNil)))) (o1 F h ma mb md) := fun r e σ H Hr Q E k => by
  obtain ⟨a, b, d, e1, e2, e3, e4⟩ := mU e
  obtain ⟨hr, e5, e6⟩ := nZ e4
  obtain ⟨z, e7, rfl⟩ := Option.map_eq_some_iff.mp e6
  obtain ⟨h', rr⟩ := hr
  obtain ⟨v, G, w1, g1, g2, _⟩ := E.regAt hi
  refine ⟨v, w1, h2 a e1 σ H Hr _ E fun v1 H1 Hr1 x1 a1 => h3 b e2 σ H1 Hr1 _ (E.ext x1) fun v2 H2 Hr2 x2 a2 => ?_⟩
  have E2 := (E.ext x1).ext x2
  obtain ⟨v', G2, w2, g3, g4, cl, _⟩ := E2.regAt hi
  rw [w1] at w2
  cases w2
  refine ⟨v, v1, v2, h, a, b, G2, Hr2, h', rr, rfl, fun a o q => (g4 a o q).1, g3, E2.sub, fun x o q => ?_, (A2 a).mono _ _ _ ((bD fa).trans x2.r) a1, (A3 b).mono _ _ _ (bD fb) a2, e5, fun vr H' G' Hn k1 k2 k3 k4 k5 k6 => ?_⟩
  · cases y : G2 x with
    | none => rfl
    | some u => rw [(g4 x u y).2.1] at q; cases q
  have E3 := cl H' G' _ k1 k2 k3
  refine h4 h' d e3 σ H' Hr2 _ E3 fun vd H3 Hr3 x3 a3 => ?_
  have E4 := E3.ext x3
  unfold ez at e7
  split at e7
  · rename_i hs
    cases e7
    refine ⟨_, _, ⟨en rr, en d, rfl, Enc.plain rr, Enc.plain d, Nat.lt_of_le_of_lt (ge rr) hd, Nat.lt_of_le_of_lt (ge d) hd, hs, rfl⟩, .cons ((aE K rr).mono _ _ _ (k4.trans x3.h) k6) (.cons ((aE K d).mono _ _ _ ((bD fd).trans x3.s) a3) .nil), fun vb H5 s5 a5 => ?_⟩
    cases a5
    refine ⟨_, rfl, ?_⟩
    rw [ky]
    exact k H5 _ (E4.ext (Ext.call E4.sub (Same.refl _) s5)) (((x1.r.trans x2.r).trans x3.r).trans (Ext.call E4.sub (Same.refl _) s5).r)
  · cases e7
theorem A8 {tt : TT} {m : Option (HallT × Bool)} (h : DTh K c H0 ρ i tt m) : DTh K c H0 ρ i (tNot tt) (m.map fun r => (r.1, !r.2)) := fun r e σ H Hr Q E k => by
  obtain ⟨q, h1, rfl⟩ := Option.map_eq_some_iff.mp e
  exact h q h1 σ H Hr _ E fun H' Hr' E' s => k H' Hr' E' s
def CN (m : Option (HallT × Bool)) (mb : Option Bool) : Option (HallT × Bool) := m.bind fun r => if r.2 = true then some (r.1, true) else mb.map fun b => (r.1, b)
theorem Dy {t1 t2 : TT} {m : Option (HallT × Bool)} {mb : Option Bool} (h1 : DTh K c H0 ρ i t1 m) (h2 : ∀ h', DTm K H0 (ρ.set i (.reg (b8 K c h'))) t2 mb) : DTh K c H0 ρ i (tOr t1 t2) (CN m mb) := fun r e σ H Hr Q E k => by
  obtain ⟨q, e1, e2⟩ := nZ e
  refine h1 q e1 σ H Hr _ E fun H' Hr' E' s => ?_
  by_cases z : q.2 = true
  · rw [if_pos z] at e2
    cases e2
    rw [z, if_pos rfl]
    exact k H' Hr' E' s
  · rw [if_neg z] at e2
    obtain ⟨b, e3, rfl⟩ := Option.map_eq_some_iff.mp e2
    rw [if_neg z]
    exact h2 q.1 b e3 σ H' Hr' _ E' fun H2 Hr2 x => k H2 Hr2 (E'.ext x) (s.trans x.r)
theorem Et {ct : TT} {mc : Option (HallT × Bool)} {m1 m2 : HallT → Option (Fl S1 R)} {k : S1 → Option (Fl S R)} {B1 : S1 → List Slot} (hc : DTh K c H0 ρ i ct mc) (h1 : ∀ z, DB Gw H0 (ρ.set i (.reg (b8 K c z))) t A (m1 z) B1) (h2 : ∀ z, DB Gw H0 (ρ.set i (.reg (b8 K c z))) w A (m2 z) B1) (hk : ∀ s, DB Gw H0 (B1 s) u A (k s) Bs) :
    DB Gw H0 ρ (tSeq (tIfS ct t w) u) A (ah (b1 (fun r => a9 (some r.2) (m1 r.1) (m2 r.1)) mc) k) Bs := by
  refine pV (B1 := B1) (fun fl e => ?_) hk
  obtain ⟨r, e1, e2⟩ := cC e
  obtain ⟨z, b⟩ := r
  intro σ H Hr D E kn kr kx
  refine hc (z, b) e1 σ H Hr _ E fun H' Hr' E' s => ?_
  cases b with
  | true => exact h1 z fl e2 σ H' Hr' D E' (fun ρ' σ' H2 Hr2 n E2 s2 => kn ρ' σ' H2 Hr2 n E2 (s.trans s2)) (kr.up s) (kx.up s)
  | false => exact h2 z fl e2 σ H' Hr' D E' (fun ρ' σ' H2 Hr2 n E2 s2 => kn ρ' σ' H2 Hr2 n E2 (s.trans s2)) (kr.up s) (kx.up s)
end
end Kj

namespace Kj
open PySem L2
theorem t6 {X : Cx} (hcalm : X.calm = true) : CallR X (.type "list") vu := call_listD hcalm
def x_ {α : Type} (k : Str) (d : List (Str × α)) : Option Bool := some (!(d.lookup k).isSome)
section
variable {H0 : Hp} {ρ : List Slot} {K : PySem.W.Frag} {f fa fb : Bool} {ta tb te : TE} {α : Type} {A : α → Abs}
theorem uP {ma : Option (List (Str × α))} {mk : Option Str} (hb : DM H0 ρ tb fb (aE K) mk) (ha : DM H0 ρ ta f (aDs A) ma) : DM H0 ρ (tDNotIn tb ta) true (aE K) (b2 x_ mk ma) := fun x e σ H Hr Q E k => by
  obtain ⟨n, d, h1, h2, h3⟩ := cq e
  refine hb n h1 σ H Hr _ E fun z H1 Hr1 x1 a1 => ha d h2 σ H1 Hr1 _ (E.ext x1) fun y H2 Hr2 x2 a2 => ?_
  cases a1
  obtain ⟨p, fs, rfl, hp1, r⟩ := a2
  cases h3
  refine ⟨p, _, rfl, uW (eZ x2.s (eZ (bD f) hp1)) n, k _ H2 Hr2 (x1.trans x2) ?_⟩
  have : (fs.lookup n).isSome = (d.lookup n).isSome := by
    rcases jk (k := n) r with ⟨y, v, q1, q2, _⟩ | ⟨q1, q2⟩ <;> rw [q1, q2] <;> rfl
  rw [this]
  exact .bl _
end
end Kj

namespace Kj
open PySem L2
def eh (cj : (List (List Str))) : Option (Rs Unit) := eY (S := Unit) 
  (ah (S1 := Unit) (a9 (dC (chM leI leI (some (1 : Int)) (b1 b7 (some cj)) (some (40 : Int))))
    (some (Fl.ex ⟨"BadBook", []⟩))
    (some (Fl.nx ()))) fun s1 => (ah (S1 := Unit) (b1 (fun xs => cD (fun x3 s2 => (ah (S1 := Unit) (a9 (dC (b1 gM (some x3.b)))
    (b1 (fun i => some (Fl.ex ⟨"BadVerse", [("row", i)]⟩)) (some x3.a))
    (some (Fl.nx ()))) fun s5 => (some (Fl.nx ())))) xs ()) (b1 gX (some cj))) fun s2 => (ah (S1 := Unit) (b1 (fun xs => cD (fun x7 s6 => (ah (S1 := Unit) (b1 (fun xs => cD (fun x13 s12 => (ah (S1 := Unit) (a9 (orM (b2 eK (b2 atI (some cj) (some x13)) (b2 atI (some cj) (some x7))) (b2 eK (b2 atI (some cj) (some x7)) (b2 atI (some cj) (some x13))))
    (b2 (fun i j => some (Fl.ex ⟨"Alike", [("other", j), ("one", i)]⟩)) (some x13) (some x7))
    (some (Fl.nx ()))) fun s15 => (some (Fl.nx ())))) xs ()) (b1 rngM (some x7))) fun s12 => (some (Fl.nx ())))) xs ()) (b1 rngM (b1 b7 (some cj)))) fun s6 => (some (Fl.nx ())))))
def c_ (bL : (List (List Str))) : Option (Rs BookT) := B9 (R := Unit)
  (bX (fun _ => (b1 (fun y0 => (some (Fl.nx (⟨y0⟩ : BookT)))) (b1 (lcM fun x1 => lcE (some true) (b1 jh (some x1))) (some bL)))) (b1 eh (some bL)))
def ij (gz : Str) : Option Bool := ba (S := Unit) (R := Bool) 
  (b1 (fun r => some (Fl.rt r)) (fG (chM leI leI (some (1 : Int)) (b1 rJ (some gz)) (some (8 : Int))) (b1 nH (b1 (lcM fun x1 => lcE (some true) (chM leS leS (some ("a" : Str)) (some x1) (some ("z" : Str)))) (b1 ug (some gz))))))
def fq (io : (List (Str × BookT))) (dM : Str) : Option Unit := jr (S := Unit) 
  (ah (S1 := Unit) (a9 (dC (b1 ij (some dM)))
    none
    (some (Fl.nx ()))) fun s1 => (ah (S1 := Unit) (a9 (b2 yw (some dM) (some io))
    none
    (some (Fl.nx ()))) fun s2 => (ah (S1 := Unit) (a9 (b2 geI (b1 vF (some io)) (some (8 : Int)))
    none
    (some (Fl.nx ()))) fun s3 => (some (Fl.nx ())))))
def eJ (jd : (List (Str × BookT))) (dM : Str) : Option BookT := ba (S := Unit) (R := BookT) 
  (ah (S1 := Unit) (a9 (b2 x_ (some dM) (some jd))
    none
    (some (Fl.nx ()))) fun s1 => (b1 (fun r => some (Fl.rt r)) (b2 zP (some jd) (some dM))))
def df (cj : (List (List Str))) : Option (List (List Str)) := ba (S := Unit) (R := (List (List Str))) 
  (b1 (fun r => some (Fl.rt r)) (b1 (lcM fun x1 => lcE (some true) (b1 jh (some x1))) (some cj)))
def eV (oR : (Tp Thing)) : Option (Tp Thing) := ba (S := Unit) (R := (Tp Thing)) 
  (b1 (fun r => some (Fl.rt r)) (b1 oU (b1 (lcM fun x1 => lcE (some true) (a9 ((some x1).map yr) ((b1 df ((some x1).bind zD)).map Thing.l) (some x1))) (b1 ji (some oR)))))
def bP : HallT → Str → List (List Str) → Option (Rs HallT) := ox c_ fq df
def dm (ac : HallT) : Option (List Str) := ba (S := Unit) (R := (List Str)) 
  (b1 (fun r => some (Fl.rt r)) (b1 tE ((b1 lF (some ac)).map P2.a)))
def dV (ac : HallT) : Option (List (Tp Thing)) := ba (S := Unit) (R := (List (Tp Thing))) 
  (b1 (fun r => some (Fl.rt r)) (b1 (lcM fun x1 => lcE (some true) (b1 eV (some x1))) (b3 cM ((some ac).map HallT.log) ce (bN ((some ac).map fun z : HallT => (z.done : Int))))))
def fu (ac : HallT) (dM : Str) : Option BookT := ba (S := Unit) (R := BookT) 
  (b1 (fun r => some (Fl.rt r)) (b2 eJ ((b1 lF (some ac)).map P2.a) (some dM)))
def fM (a7 : (List Str)) : Option Bool := ba (S := Unit) (R := Bool) 
  (ah (S1 := Unit) (a9 (dC (chM leI leI (some (1 : Int)) (b1 b7 (some a7)) (some (8 : Int))))
    (b1 (fun r => some (Fl.rt r)) (some false))
    (some (Fl.nx ()))) fun s1 => (ah (S1 := Unit) (b1 (fun xs => cD (fun x3 s2 => (ah (S1 := Unit) (a9 (orM (dC (chM leI leI (some (1 : Int)) (b1 rJ (some x3)) (some (3 : Int)))) (dC (b1 nH (b1 (lcM fun x6 => lcE (some true) (b2 rL (some x6) (some ("abcdefghijklmnopqrstuvwxyz" : Str)))) (b1 ug (some x3))))))
    (b1 (fun r => some (Fl.rt r)) (some false))
    (some (Fl.nx ()))) fun s7 => (some (Fl.nx ())))) xs ()) (some a7)) fun s2 => (b1 (fun r => some (Fl.rt r)) (some true))))
def eg (aa : (List (List Str))) : Option (P3 Str Int Int) := ba (S := Unit) (R := (P3 Str Int Int)) 
  (ah (S1 := Unit) (a9 (dC (chM leI leI (some (1 : Int)) (b1 b7 (some aa)) (some (40 : Int))))
    (b1 (fun r => some (Fl.rt r)) (b3 mk3 (some ("BadBook" : Str)) (some (0 : Int)) (some (0 : Int))))
    (some (Fl.nx ()))) fun s1 => (ah (S1 := Unit) (b1 (fun xs => cD (fun x3 s2 => (ah (S1 := Unit) (a9 (dC (b1 fM (b2 atI (some aa) (some x3))))
    (b1 (fun r => some (Fl.rt r)) (b3 mk3 (some ("BadVerse" : Str)) (some x3) (some (0 : Int))))
    (some (Fl.nx ()))) fun s5 => (some (Fl.nx ())))) xs ()) (b1 rngM (b1 b7 (some aa)))) fun s2 => (ah (S1 := Unit) (b1 (fun xs => cD (fun x7 s6 => (ah (S1 := Unit) (b1 (fun xs => cD (fun x13 s12 => (ah (S1 := Unit) (a9 (b2 dY (b2 atI (some aa) (some x13)) (b2 atI (some aa) (some x7)))
    (b1 (fun r => some (Fl.rt r)) (b3 mk3 (some ("Alike" : Str)) (some x13) (some x7)))
    (some (Fl.nx ()))) fun s15 => (some (Fl.nx ())))) xs ()) (b1 rngM (some x7))) fun s12 => (some (Fl.nx ())))) xs ()) (b1 rngM (b1 b7 (some aa)))) fun s6 => (b1 (fun r => some (Fl.rt r)) (b3 mk3 (some ("" : Str)) (some (0 : Int)) (some (0 : Int)))))))
def dJ (aa : (List (List Str))) (af : (List Int)) : Option (List (List Str)) := ba (S := Unit) (R := (List (List Str))) 
  (b1 (fun bw => (b1 (fun a7 => (b1 (fun dj => (ah (S1 := (List Str)) (a9 (b2 eqM (b2 bJ (b2 atI (some af) (some (0 : Int))) (some (6 : Int))) (some (0 : Int)))
    (b1 (fun m4 => (b1 (fun a7 => (b1 (fun r => some (Fl.rt r)) (b2 dw (b2 dw (b3 cM (some aa) ce (bN (some bw))) (b1 aK (b2 ar (some a7) (some ([] : List (List Str)))))) (b3 cM (some aa) (bN (some bw)) ce))))
    (b2 dw (b2 dw (b3 cM (some a7) ce (bN (some dj))) (b1 aK (b2 ar (some m4) (some ([] : List Str))))) (b3 cM (some a7) (bN (b2 cN (some dj) (some (1 : Int)))) ce))))
    (b2 atI (b1 aK (b2 ar (some ("" : Str)) (b2 ar (some ("abcd" : Str)) (b2 ar (some ("A" : Str)) (b2 ar (some ("a b" : Str)) (b2 ar (some ("-" : Str)) (b2 ar (some ("a1" : Str)) (b2 ar (some (" a" : Str)) (b2 ar (some ("ab\n" : Str)) (b2 ar (some ("aB" : Str)) (some ([] : List Str)))))))))))) (b2 bJ (b2 atI (some af) (some (4 : Int))) (some (9 : Int)))))
    (some (Fl.nx a7))) fun s1 => (ah (S1 := Unit) (a9 (b2 eqM (b2 bJ (b2 atI (some af) (some (0 : Int))) (some (6 : Int))) (some (1 : Int)))
    (b1 (fun r => some (Fl.rt r)) (b2 dw (b2 dw (b3 cM (some aa) ce (bN (some bw))) (b1 aK (b2 ar (b3 cM (some s1) ce (bN (some dj))) (some ([] : List (List Str)))))) (b3 cM (some aa) (bN (some bw)) ce)))
    (some (Fl.nx ()))) fun s2 => (ah (S1 := Unit) (a9 (b2 eqM (b2 bJ (b2 atI (some af) (some (0 : Int))) (some (6 : Int))) (some (2 : Int)))
    (b1 (fun r => some (Fl.rt r)) (b2 dw (b2 dw (b3 cM (some aa) ce (bN (some bw))) (b1 aK (b2 ar (b2 dw (some s1) (b2 ww (some ("a" : Str)) (b2 bJ (b2 atI (some af) (some (4 : Int))) (some (9 : Int))))) (some ([] : List (List Str)))))) (b3 cM (some aa) (bN (some bw)) ce)))
    (some (Fl.nx ()))) fun s3 => (ah (S1 := Unit) (a9 (b2 eqM (b2 bJ (b2 atI (some af) (some (0 : Int))) (some (6 : Int))) (some (3 : Int)))
    (b1 (fun r => some (Fl.rt r)) (b2 dw (b2 dw (b3 cM (some aa) ce (bN (some bw))) (b1 aK (b2 ar (b2 dw (b3 cM (some s1) ce (bN (some dj))) (b3 cM (b1 aK (b2 ar (some ("zzz" : Str)) (b2 ar (some ("q" : Str)) (some ([] : List Str))))) ce (bN (b2 bJ (b2 atI (some af) (some (4 : Int))) (some (3 : Int)))))) (some ([] : List (List Str)))))) (b3 cM (some aa) (bN (some bw)) ce)))
    (some (Fl.nx ()))) fun s4 => (ah (S1 := Unit) (a9 (b2 eqM (b2 bJ (b2 atI (some af) (some (0 : Int))) (some (6 : Int))) (some (4 : Int)))
    (b1 (fun r => some (Fl.rt r)) (b2 dw (b2 dw (b3 cM (some aa) ce (bN (some bw))) (b1 aK (b2 ar (b1 aK (b2 ar (some ("zz" : Str)) (b2 ar (b2 vD (some ("q" : Str)) (b2 cN (some (1 : Int)) (b2 bJ (b2 atI (some af) (some (4 : Int))) (some (4 : Int))))) (some ([] : List Str))))) (some ([] : List (List Str)))))) (b3 cM (some aa) (bN (some bw)) ce)))
    (some (Fl.nx ()))) fun s5 => (b1 (fun r => some (Fl.rt r)) (b2 dw (some aa) (b1 (lcM fun x6 => lcE (some true) (b2 dw (b1 aK (b2 ar (some ("qq" : Str)) (some ([] : List Str)))) (b3 cM (some x6) ce (bN (some (1 : Int)))))) (some aa))))))))))
    (b2 bJ (b2 atI (some af) (some (3 : Int))) (b2 Am (some (1 : Int)) (b1 b7 (some a7))))))
    (b2 atI (some aa) (b2 bJ (b2 atI (some af) (some (2 : Int))) (b1 b7 (some aa))))))
    (b2 bJ (b2 atI (some af) (some (1 : Int))) (b2 cN (b1 b7 (some aa)) (some (1 : Int)))))
def ef (bd : Int) : Option Str := ba (S := Unit) (R := Str) 
  (b1 (fun eP => (b1 (fun r => some (Fl.rt r)) (b2 qS (some ("" : Str)) (b1 (lcM fun x1 => lcE (some true) (b2 ixS (some eP) (b2 bJ (b2 cN (b2 hW (some bd) (some (8 : Int))) (b2 fE (some x1) (b2 bJ (b2 hW (some bd) (some (61 : Int))) (some (5 : Int))))) (some (26 : Int))))) (b1 rngM (b2 cN (some (1 : Int)) (b2 bJ (some bd) (some (8 : Int)))))))))
    (some ("abcdefghijklmnopqrstuvwxyz" : Str)))
def Cr (e0 : Exn) : Option (P3 Str Int Int) := ba (S := Unit) (R := P3 Str Int Int)
  (b1 (fun cJ => ah (S1 := P3 Str Int Int) (EN lxn [("BadBook", fun _ => (b1 (fun cJ => some (Fl.nx cJ)) (b3 mk3 (some ("BadBook" : Str)) (some (0 : Int)) (some (0 : Int))))), ("BadVerse", fun e => (b1 (fun cJ => some (Fl.nx cJ)) (b3 mk3 (some ("BadVerse" : Str)) (e.flds.lookup ("row" : Str)) (some (0 : Int))))), ("Alike", fun e => (b1 (fun cJ => some (Fl.nx cJ)) (b3 mk3 (some ("Alike" : Str)) (e.flds.lookup ("one" : Str)) (e.flds.lookup ("other" : Str))))), ("SnatchError", fun _ => (b1 (fun cJ => some (Fl.nx cJ)) (b3 mk3 (some ("other" : Str)) (some (0 : Int)) (some (0 : Int)))))] (fun _ => some (Fl.nx cJ)) (some (.ex e0) : Option (Rs Unit))) fun s1 => b1 (fun r => some (Fl.rt r)) (some s1)) (b3 mk3 (some ("" : Str)) (some (0 : Int)) (some (0 : Int))))
def cv (h : HallT) (n : Str) (v : List (List Str)) : Option (HallT × P3 Str Int Int) := (bP h n v).bind fun o => match o with
  | .ok h' => some (h', ⟨"", 0, 0⟩)
  | .ex e => (Cr e).map fun r => (h, r)
def vN (bU : (List Int)) : Option Bool := ba (S := Unit) (R := Bool) 
  (b1 (fun a8 => (b1 (fun aa => (ah (S1 := (List (List Str))) (b1 (fun xs => cD (fun x2 s1 => (b1 (fun aa => (some (Fl.nx aa)))
    (b2 dJ (some s1) (b3 cM (some a8) (bN (b2 cN (some (3 : Int)) (b2 fE (some (5 : Int)) (some x2)))) ce)))) xs aa) (b1 rngM (b2 bJ (b2 atI (some a8) (some (1 : Int))) (some (4 : Int))))) fun s1 => (ah (S1 := (List (List Str))) (a9 (b2 eqM (b2 bJ (b2 atI (some a8) (some (2 : Int))) (some (19 : Int))) (some (18 : Int)))
    (b1 (fun aa => (some (Fl.nx aa)))
    (b1 aK (some ([] : List (List Str)))))
    (some (Fl.nx s1))) fun s3 => (b1 (fun cG => (b1 (fun cP => (ah (S1 := HallT) (b1 (fun xs => cD (fun x5 s4 => (pf bP s4 (some x5) (b1 aK (b2 ar (b1 aK (b2 ar (some ("a" : Str)) (some ([] : List Str)))) (some ([] : List (List Str))))) fun cG => (some (Fl.nx cG)))) xs cG) (some cP)) fun s4 => (b1 (fun bO => (ah (S1 := Unit) (a9 (b2 inM (some bO) (some cP))
    (b1 (fun r => some (Fl.rt r)) (some true))
    (some (Fl.nx ()))) fun s6 => (b1 (fun dH => (b1 (fun fH => (ah (S1 := HallT) (b1 (fun r => a9 (some r.2)
    ((fun cG => (b1 (fun r => some (Fl.rt r)) (some false))) r.1)
    ((fun cG => (some (Fl.nx cG))) r.1)) (CN (((o1 cv s4 (some bO) (some dH) (some fH))).map fun r => (r.1, !r.2)) (b2 neM (some dH) (some s3)))) fun s7 => (ah (S1 := Unit) (a9 (b2 neM ((some fH).map P3.a) (some ("" : Str)))
    (b1 (fun r => some (Fl.rt r)) (fG (b2 eqM (b1 dm (some s7)) (some cP)) (b2 eqM (b1 b7 (b1 dV (some s7))) (b1 b7 (some cP)))))
    (some (Fl.nx ()))) fun s8 => (b1 (fun r => some (Fl.rt r)) (fG (b2 eqM (b1 dm (some s7)) (b2 dw (some cP) (b1 aK (b2 ar (some bO) (some ([] : List Str)))))) (b2 cW (b2 fu (some s7) (some bO)) (some s3)))))))
    (b1 eg (some s3))))
    (b1 gc (some s3)))))
    (b1 ef (b2 atI (some a8) (some (272 : Int)))))))
    (b3 cM (b1 aK (b2 ar (b1 ef (b2 atI (some a8) (some (270 : Int)))) (some ([] : List Str)))) ce (bN (b2 bJ (b2 atI (some a8) (some (271 : Int))) (some (2 : Int)))))))
    (some jj)))))
    (b2 gL (b3 cM (some a8) (bN (some (20 : Int))) ce) (b2 atI (b1 aK (b2 ar (some (5 : Int)) (b2 ar (some (12 : Int)) (b2 ar (some (40 : Int)) (some ([] : List Int)))))) (b2 bJ (b2 atI (some a8) (some (0 : Int))) (some (3 : Int)))))))
    (b2 fL (some bU) (some (290 : Int))))
end Kj

namespace Kj
open PySem L2
theorem b0 {α β γ : Type} {a : α} {b : β} {c : γ} : mk3 a b c = some ⟨a, b, c⟩ := Eq.trans rfl rfl
theorem bZ {α β γ δ : Type} {a : α} {b : β} {c : γ} {d : δ} : mk4 a b c d = some ⟨a, b, c, d⟩ := Eq.trans rfl rfl
theorem bC {bs : List Bool} : BN bs = some (bs.any id) := Eq.trans rfl rfl
theorem bB {β : Type} {y : β} : wG y = some [y] := Eq.trans rfl rfl
def Fd (rs : List (List Int)) : Prop := 1 ≤ rs.length ∧ rs.length ≤ 3 ∧ ∀ r ∈ rs, r.length ≤ 12
def DOk (m : Nat) (x0 x1 : List (List Int)) : Prop := Fd x0 ∧ Fd x1 ∧ (x0.flatten ++ x1.flatten).Nodup ∧ ∀ c ∈ x0.flatten ++ x1.flatten, 0 ≤ c ∧ c < (m : Int)
theorem DOk.put {m : Nat} {x0 x1 y0 y1 : List (List Int)} (h : DOk m x0 x1) (f0 : Fd y0) (f1 : Fd y1) (hp : (y0.flatten ++ y1.flatten).Perm ((m : Int) :: (x0.flatten ++ x1.flatten))) : DOk (m + 1) y0 y1 := by
  obtain ⟨_, _, h3, h4⟩ := h
  refine ⟨f0, f1, hp.nodup_iff.mpr (List.nodup_cons.mpr ⟨fun z => ?_, h3⟩), fun c hc => ?_⟩
  · have := h4 _ z; omega
  · rcases List.mem_cons.mp (hp.mem_iff.mp hc) with e | e
    · subst e; omega
    · have := h4 _ e; omega
theorem DOk.mono {m n : Nat} {x0 x1 : List (List Int)} (h : DOk m x0 x1) (hm : m ≤ n) : DOk n x0 x1 := ⟨h.1, h.2.1, h.2.2.1, fun c hc => by have := h.2.2.2 c hc; omega⟩
theorem CA {xs : List (List Int)} (h : ∀ r ∈ xs, r.length ≤ 12) : xs.flatten.length ≤ 12 * xs.length := by
  induction xs with
  | nil => simp
  | cons x xs ih =>
    rw [List.flatten_cons, List.length_append, List.length_cons]
    have := h x (by simp)
    have := ih fun r hr => h r (by simp [hr])
    omega
theorem Fd.len {x : List (List Int)} (h : Fd x) : x.flatten.length ≤ 36 := by
  have := CA h.2.2; have := h.2.1; omega
def fAt (x0 x1 : List (List Int)) (f : Int) : List (List Int) := if f = 0 then x0 else x1
theorem Dr {m : Nat} {x0 x1 : List (List Int)} (h : DOk m x0 x1) (f : Int) : Fd (fAt x0 x1 f) := by
  unfold fAt; split
  · exact h.1
  · exact h.2.1
theorem F0 {x0 x1 : List (List Int)} {f : Int} (h : f = 0 ∨ f = 1) : atI ([x0, x1] : List (List (List Int))) f = some (fAt x0 x1 f) := by
  rcases h with rfl | rfl <;> rfl
def EY (x0 x1 : List (List Int)) (vs : List Int) (f : Int) : List Int := vs.filter fun v => !decide (v ∈ (fAt x0 x1 f).flatten)
def uw (x0 x1 : List (List Int)) (v : Int) : Int := if v ∈ x0.flatten then 0 else if v ∈ x1.flatten then 1 else -1
theorem Al {v : Int} {rs : List (List Int)} : ((rs.map fun r => decide (v ∈ r)).any id) = decide (v ∈ rs.flatten) := by
  rw [Bool.eq_iff_iff, List.any_eq_true, decide_eq_true_iff, List.mem_flatten]
  constructor
  · rintro ⟨z, hz, h⟩
    obtain ⟨r, hr, rfl⟩ := List.mem_map.mp hz
    exact ⟨r, hr, of_decide_eq_true h⟩
  · rintro ⟨r, hr, h⟩
    exact ⟨_, List.mem_map.mpr ⟨r, hr, rfl⟩, decide_eq_true h⟩
theorem AB {m : Nat} {x0 x1 : List (List Int)} (hd : DOk m x0 x1) (v : Int) : eW [x0, x1] v = some (uw x0 x1 v) := by
  have a0 := hd.1.2.1
  have a1 := hd.2.1.2.1
  unfold eW
  simp only [c1, c2, c3, c4, c5, bQ, br, cnx, crt, bR, bq, bh, bp, bn, bS, bg, a6, aZ, aY, aX, aG, aw, az, aP, aL, aW, aQ, aM, aR, aV, ai, aN, bf, ay, aC, av, au, ap, aF, am, ao, ax, al, aA, aB, aU, b0, bZ, bC, bB, Bool.not_true, Bool.not_false]
  rw [fB (by omega) (by omega)]
  simp only [c1, c2, c3, c4, c5, bQ, br, cnx, crt, bR, bq, bh, bp, bn, bS, bg, a6, aZ, aY, aX, aG, aw, az, aP, aL, aW, aQ, aM, aR, aV, ai, aN, bf, ay, aC, av, au, ap, aF, am, ao, ax, al, aA, aB, aU, b0, bZ, bC, bB, Bool.not_true, Bool.not_false]
  rw [show (List.range (2 : Int).toNat).map (fun n : Nat => (n : Int)) = [0, 1] from rfl]
  rw [nk (fun f => decide (v ∈ (fAt x0 x1 f).flatten)) (by simp) fun f hf => ?_]
  · simp only [c1, c2, c3, c4, c5, bQ, br, cnx, crt, bR, bq, bh, bp, bn, bS, bg, a6, aZ, aY, aX, aG, aw, az, aP, aL, aW, aQ, aM, aR, aV, ai, aN, bf, ay, aC, av, au, ap, aF, am, ao, ax, al, aA, aB, aU, b0, bZ, bC, bB, Bool.not_true, Bool.not_false]
    rw [cy (by simp)]
    simp only [c1, c2, c3, c4, c5, bQ, br, cnx, crt, bR, bq, bh, bp, bn, bS, bg, a6, aZ, aY, aX, aG, aw, az, aP, aL, aW, aQ, aM, aR, aV, ai, aN, bf, ay, aC, av, au, ap, aF, am, ao, ax, al, aA, aB, aU, b0, bZ, bC, bB, Bool.not_true, Bool.not_false]
    unfold uw
    by_cases h0 : v ∈ x0.flatten
    · by_cases h1 : v ∈ x1.flatten
      · rw [if_pos h0]; simp [List.filter, fAt, h0, h1, dw, atI, ixN, b1]
      · rw [if_pos h0]; simp [List.filter, fAt, h0, h1, dw, atI, ixN, b1]
    · rw [if_neg h0]
      by_cases h1 : v ∈ x1.flatten
      · rw [if_pos h1]; simp [List.filter, fAt, h0, h1, dw, atI, ixN, b1]
      · rw [if_neg h1]; simp [List.filter, fAt, h0, h1, dw, atI, ixN, b1]
  · have hf' : f = 0 ∨ f = 1 := by simpa using hf
    rw [F0 hf']
    simp only [c1, c2, c3, c4, c5, bQ, br, cnx, crt, bR, bq, bh, bp, bn, bS, bg, a6, aZ, aY, aX, aG, aw, az, aP, aL, aW, aQ, aM, aR, aV, ai, aN, bf, ay, aC, av, au, ap, aF, am, ao, ax, al, aA, aB, aU, b0, bZ, bC, bB, Bool.not_true, Bool.not_false]
    rw [gJ (fun r => decide (v ∈ r)) (by have := (Dr hd f).2.1; omega) fun r _ => rfl]
    simp only [c1, c2, c3, c4, c5, bQ, br, cnx, crt, bR, bq, bh, bp, bn, bS, bg, a6, aZ, aY, aX, aG, aw, az, aP, aL, aW, aQ, aM, aR, aV, ai, aN, bf, ay, aC, av, au, ap, aF, am, ao, ax, al, aA, aB, aU, b0, bZ, bC, bB, Bool.not_true, Bool.not_false, Al]
theorem Ff {m : Nat} {x0 x1 : List (List Int)} (hd : DOk m x0 x1) {vs : List Int} (hl : vs.length ≤ 1000) (f : Int) : mw [x0, x1] vs f = some (decide (∀ v ∈ vs, uw x0 x1 v = f)) := by
  unfold mw
  simp only [c1, c2, c3, c4, c5, bQ, br, cnx, crt, bR, bq, bh, bp, bn, bS, bg, a6, aZ, aY, aX, aG, aw, az, aP, aL, aW, aQ, aM, aR, aV, ai, aN, bf, ay, aC, av, au, ap, aF, am, ao, ax, al, aA, aB, aU, b0, bZ, bC, bB, Bool.not_true, Bool.not_false]
  rw [gJ (fun v => decide (uw x0 x1 v = f)) (by omega) fun v _ => by rw [AB hd]; rfl]
  simp only [c1, c2, c3, c4, c5, bQ, br, cnx, crt, bR, bq, bh, bp, bn, bS, bg, a6, aZ, aY, aX, aG, aw, az, aP, aL, aW, aQ, aM, aR, aV, ai, aN, bf, ay, aC, av, au, ap, aF, am, ao, ax, al, aA, aB, aU, b0, bZ, bC, bB, Bool.not_true, Bool.not_false]
  congr 1
  rw [Bool.eq_iff_iff, List.all_eq_true, decide_eq_true_iff]
  constructor
  · intro h v hv
    exact of_decide_eq_true (h _ (List.mem_map.mpr ⟨v, hv, rfl⟩))
  · intro h z hz
    obtain ⟨v, hv, rfl⟩ := List.mem_map.mp hz
    exact decide_eq_true (h v hv)
def free (x0 x1 : List (List Int)) (vs : List Int) : List Int := [(0 : Int), 1].filter fun f => decide (∀ v ∈ vs, uw x0 x1 v = f)
theorem r2 : (List.range (2 : Int).toNat).map (fun n : Nat => (n : Int)) = [0, 1] := rfl
end Kj

namespace Kj
open PySem L2
theorem yd {b : BL} {u : List Int} {hd : List Str} (hb : b.length ≤ 40) (h : ∀ n ∈ u, InB b n) : j3 b u hd = some (uq b u hd) := by
  unfold j3
  simp only [c1, c2, c3, c4, c5, bQ, br, cnx, crt, bR, bq, bh, bp, bn, bS, bg, a6, aZ, aY, aX, aG, aw, az, aP, aL, aW, aQ, aM, aR, aV, ai, aN, bf, ay, aC, av, au, ap, aF, am, ao, ax, al, aA, aB, aU]
  rw [fB (by omega) (by omega)]
  simp only [c1, c2, c3, c4, c5, bQ, br, cnx, crt, bR, bq, bh, bp, bn, bS, bg, a6, aZ, aY, aX, aG, aw, az, aP, aL, aW, aQ, aM, aR, aV, ai, aN, bf, ay, aC, av, au, ap, aF, am, ao, ax, al, aA, aB, aU]
  rw [nk (fun n => decide (n ∈ u) && decide ((vAt b n).take hd.length = hd)) (by simp; omega) fun x hx => by
    obtain ⟨k, hk, rfl⟩ := List.mem_map.mp hx
    have := List.mem_range.mp hk
    rw [wa (b := b) ⟨by omega, by omega⟩]
    simp only [c1, c2, c3, c4, c5, bQ, br, cnx, crt, bR, bq, bh, bp, bn, bS, bg, a6, aZ, aY, aX, aG, aw, az, aP, aL, aW, aQ, aM, aR, aV, ai, aN, bf, ay, aC, av, au, ap, aF, am, ao, ax, al, aA, aB, aU]
    rw [e8 _ (by omega)]
    rfl]
  simp only [c1, c2, c3, c4, c5, bQ, br, cnx, crt, bR, bq, bh, bp, bn, bS, bg, a6, aZ, aY, aX, aG, aw, az, aP, aL, aW, aQ, aM, aR, aV, ai, aN, bf, ay, aC, av, au, ap, aF, am, ao, ax, al, aA, aB, aU]
  congr 1
  refine qL (List.Pairwise.filter _ ?_) ((vm u).sublist List.filter_sublist) fun k => ?_
  · rw [List.pairwise_map]
    exact (List.pairwise_lt_range (n := ((b.length : Nat) : Int).toNat)).imp fun h => by omega
  · rw [yc, List.mem_filter, Bool.and_eq_true, decide_eq_true_iff, decide_eq_true_iff]
    constructor
    · rintro ⟨_, h1, h2⟩; exact ⟨h1, h2⟩
    · rintro ⟨h1, h2⟩
      obtain ⟨k0, k1⟩ := h k h1
      exact ⟨List.mem_map.mpr ⟨k.toNat, List.mem_range.mpr (by omega), by omega⟩, h1, h2⟩
theorem free_ok {b : BL} {x0 x1 : List (List Int)} (hb : b.length ≤ 40) (hd : DOk b.length x0 x1) {u : List Int} {hh : List Str} (h : ∀ n ∈ u, InB b n) (hl : u.length < 64) : pz b [x0, x1] u hh = some (free x0 x1 (uq b u hh)) := by
  unfold pz
  have hm := ye b u hh
  simp only [c1, c2, c3, c4, c5, bQ, br, cnx, crt, bR, bq, bh, bp, bn, bS, bg, a6, aZ, aY, aX, aG, aw, az, aP, aL, aW, aQ, aM, aR, aV, ai, aN, bf, ay, aC, av, au, ap, aF, am, ao, ax, al, aA, aB, aU, b0, bZ, bC, bB, Bool.not_true, Bool.not_false, yd hb h]
  rw [fB (by omega) (by omega), r2]
  simp only [c1, c2, c3, c4, c5, bQ, br, cnx, crt, bR, bq, bh, bp, bn, bS, bg, a6, aZ, aY, aX, aG, aw, az, aP, aL, aW, aQ, aM, aR, aV, ai, aN, bf, ay, aC, av, au, ap, aF, am, ao, ax, al, aA, aB, aU, b0, bZ, bC, bB, Bool.not_true, Bool.not_false]
  rw [nk (fun f => decide (∀ v ∈ uq b u hh, uw x0 x1 v = f)) (by simp) fun f hf => Ff hd (by omega) f]
  simp only [c1, c2, c3, c4, c5, bQ, br, cnx, crt, bR, bq, bh, bp, bn, bS, bg, a6, aZ, aY, aX, aG, aw, az, aP, aL, aW, aQ, aM, aR, aV, ai, aN, bf, ay, aC, av, au, ap, aF, am, ao, ax, al, aA, aB, aU, b0, bZ, bC, bB, Bool.not_true, Bool.not_false]
  rfl
theorem Unr.in {b : BL} {u : List Int} (h : Unr b.length u) : ∀ n ∈ u, InB b n := fun n hn => h.2 n hn
end Kj

namespace Kj
open PySem L2
def mom (b : BL) (u : List Int) (v : Int) (x0 x1 : List (List Int)) : Nat := ((EY x0 x1 (riv b u v 0) (uw x0 x1 v)).map fun n => shr (vAt b v) (vAt b n) + 1).foldr max 0
end Kj

namespace Kj
open PySem L2
def w_ (x0 x1 : List (List Int)) (s : P4 Int Int Int Int) : Prop := (s.a = 0 ∨ s.a = 1) ∧ 0 ≤ s.b ∧ s.b < (fAt x0 x1 s.a).length ∧ 0 ≤ s.c ∧ s.c ≤ s.d ∧ s.d < ((fAt x0 x1 s.a).getD s.b.toNat []).length
def swp (x0 x1 : List (List Int)) (s : P4 Int Int Int Int) : List Int := iD ((fAt x0 x1 s.a).getD s.b.toNat []) (some s.c) (some (s.d + 1))
end Kj

namespace Kj
open PySem L2
def vR (rs : List (List Int)) : List (P2 Int (List Int)) := rs.zipIdx.map fun p => ⟨(p.2 : Int), p.1⟩
def pl (us cards : List Int) : List Int := ((List.range cards.length).map fun k : Nat => (k : Int)).filter fun i => decide (cards.getD i.toNat 0 ∈ us)
def rsw (us : List Int) (f : Int) (q : P2 Int (List Int)) : List (P4 Int Int Int Int) := if pl us q.b = [] then [] else [⟨f, q.a, (pl us q.b).getD 0 0, (pl us q.b).getD ((pl us q.b).length - 1) 0⟩]
def cvf (us : List Int) (f : Int) (rs : List (List Int)) : List (P4 Int Int Int Int) := (vR rs).flatMap (rsw us f)
def cov (us : List Int) (x0 x1 : List (List Int)) : List (P4 Int Int Int Int) := cvf us 0 x0 ++ cvf us 1 x1
theorem wJ {rs : List (List Int)} {q : P2 Int (List Int)} : q ∈ vR rs ↔ ∃ k : Nat, q.a = (k : Int) ∧ rs[k]? = some q.b := by
  unfold vR
  rw [List.mem_map]
  constructor
  · rintro ⟨⟨r, k⟩, hp, rfl⟩
    exact ⟨k, rfl, by simpa using List.mem_zipIdx_iff_getElem?.mp hp⟩
  · rintro ⟨k, e1, e2⟩
    exact ⟨(q.b, k), List.mem_zipIdx_iff_getElem?.mpr e2, by obtain ⟨a, b⟩ := q; dsimp only at e1 ⊢; rw [e1]⟩
theorem Fd.cards {rs : List (List Int)} (h : Fd rs) {q : P2 Int (List Int)} (hq : q ∈ vR rs) : q.b.length ≤ 12 := by
  obtain ⟨k, _, e⟩ := wJ.mp hq
  exact h.2.2 _ (List.mem_of_getElem? e)
structure CvOk (us : List Int) (x0 x1 : List (List Int)) (s : P4 Int Int Int Int) : Prop where
  ok : w_ x0 x1 s
  ne : pl us ((fAt x0 x1 s.a).getD s.b.toNat []) ≠ []
  c : s.c = (pl us ((fAt x0 x1 s.a).getD s.b.toNat [])).getD 0 0
  d : s.d = (pl us ((fAt x0 x1 s.a).getD s.b.toNat [])).getD ((pl us ((fAt x0 x1 s.a).getD s.b.toNat [])).length - 1) 0
end Kj

namespace Kj
open PySem L2
instance {b : BL} {n : Int} : Decidable (InB b n) := by unfold InB; infer_instance
section
variable {α β S R : Type} {x : α} {e : Exn}
theorem xbO {k : α → Option (Fl S R)} : bX k (some (.ok x)) = k x := Eq.trans rfl rfl
theorem xbE {k : α → Option (Fl S R)} : bX k (some (.ex e)) = some (.ex e) := Eq.trans rfl rfl
end
theorem zj {p q : Prop} [Decidable p] [Decidable q] (h : ¬(p ∧ q)) : (decide p && decide q) = false := by
  rw [← Bool.not_eq_true, Bool.and_eq_true, decide_eq_true_iff, decide_eq_true_iff]; exact h
def BO (x0 x1 : List (List Int)) (f r : Int) : Prop := (f = 0 ∨ f = 1) ∧ 0 ≤ r ∧ r < (fAt x0 x1 f).length
instance {x0 x1 : List (List Int)} {f r : Int} : Decidable (BO x0 x1 f r) := by unfold BO; infer_instance
instance {x0 x1 : List (List Int)} {s : P4 Int Int Int Int} : Decidable (w_ x0 x1 s) := by unfold w_; infer_instance
theorem w_.row {x0 x1 : List (List Int)} {s : P4 Int Int Int Int} (h : w_ x0 x1 s) : BO x0 x1 s.a s.b := ⟨h.1, h.2.1, h.2.2.1⟩
def swB (x0 x1 : List (List Int)) (s : P4 Int Int Int Int) : Str := if BO x0 x1 s.a s.b then (if w_ x0 x1 s then "" else "NoCard") else "NoField"
end Kj

namespace Kj
open PySem L2
def Bz (N L : Nat) (b : BL) : Prop := b.length ≤ N ∧ ∀ v ∈ b, v.length ≤ L ∧ ∀ z ∈ v, z.cps.size ≤ 4
def syB (z : Str) : Bool := (decide (1 ≤ z.cps.size) && decide (z.cps.size ≤ 3)) && z.cps.toList.all fun c => decide (97 ≤ c) && decide (c ≤ 122)
def veB (v : List Str) : Bool := (decide (1 ≤ v.length) && decide (v.length ≤ 8)) && v.all syB
theorem yj {z : Str} (h : z.cps.size ≤ 4) : rJ z = some (z.cps.size : Int) := by
  unfold rJ
  rw [if_pos (by show z.cps.size ≤ sizeLine; rw [sizeLine_eq]; omega)]
  rfl
theorem chI {a b c : Int} : chM leI leI (some a) (some b) (some c) = some (decide (a ≤ b) && decide (b ≤ c)) := v_ aL aL
theorem zF {m : Option Bool} : fG (some false) m = some false := rfl
theorem u8 {m : Option Bool} : fG (some true) m = m := rfl
theorem EW {z : Str} (h : z.cps.size ≤ 4) : fN z = some (syB z) := by
  unfold fN syB
  simp only [c1, c2, c3, c4, c5, bQ, br, cnx, crt, bR, bq, bh, bp, bn, bS, bg, a6, aZ, aY, aX, aG, aw, az, aP, aL, aW, aQ, aM, aR, aV, ai, aN, bf, ay, aC, av, au, ap, aF, am, ao, ax, al, aA, aB, aU, b0, bZ, bC, bB, Bool.not_true, Bool.not_false, yj h, chI]
  rw [show decide ((1 : Int) ≤ (z.cps.size : Int)) = decide (1 ≤ z.cps.size) by congr 1; simp; omega, show decide ((z.cps.size : Int) ≤ 3) = decide (z.cps.size ≤ 3) by congr 1; simp; omega]
  cases hb : (decide (1 ≤ z.cps.size) && decide (z.cps.size ≤ 3)) with
  | false => simp only [zF, c1, c2, c3, c4, c5, bQ, br, cnx, crt, bR, bq, bh, bp, bn, bS, bg, a6, aZ, aY, aX, aG, aw, az, aP, aL, aW, aQ, aM, aR, aV, ai, aN, bf, ay, aC, av, au, ap, aF, am, ao, ax, al, aA, aB, aU, b0, bZ, bC, bB, Bool.not_true, Bool.not_false, Bool.false_and]
  | true =>
    unfold ug
    simp only [c1, c2, c3, c4, c5, bQ, br, cnx, crt, bR, bq, bh, bp, bn, bS, bg, a6, aZ, aY, aX, aG, aw, az, aP, aL, aW, aQ, aM, aR, aV, ai, aN, bf, ay, aC, av, au, ap, aF, am, ao, ax, al, aA, aB, aU, b0, bZ, bC, bB, Bool.not_true, Bool.not_false, u8, Bool.true_and]
    rw [gJ (fun s : Str => match s.cps.toList with | [c] => decide (97 ≤ c) && decide (c ≤ 122) | _ => false) (by rw [List.length_map, Array.length_toList]; omega)]
    · simp only [c1, c2, c3, c4, c5, bQ, br, cnx, crt, bR, bq, bh, bp, bn, bS, bg, a6, aZ, aY, aX, aG, aw, az, aP, aL, aW, aQ, aM, aR, aV, ai, aN, bf, ay, aC, av, au, ap, aF, am, ao, ax, al, aA, aB, aU, b0, bZ, bC, bB, Bool.not_true, Bool.not_false, List.all_map]
      rfl
    · intro x hx
      obtain ⟨c, hc, rfl⟩ := List.mem_map.mp hx
      show chM leS leS (some ⟨#[97]⟩) (some ⟨#[c]⟩) (some ⟨#[122]⟩) = some (decide (97 ≤ c) && decide (c ≤ 122))
      exact v_ (oA _ _) (oA _ _)
theorem EM {v : List Str} (hl : v.length ≤ 1000) (h : ∀ z ∈ v, z.cps.size ≤ 4) : gM v = some (veB v) := by
  unfold gM veB
  simp only [c1, c2, c3, c4, c5, bQ, br, cnx, crt, bR, bq, bh, bp, bn, bS, bg, a6, aZ, aY, aX, aG, aw, az, aP, aL, aW, aQ, aM, aR, aV, ai, aN, bf, ay, aC, av, au, ap, aF, am, ao, ax, al, aA, aB, aU, b0, bZ, bC, bB, Bool.not_true, Bool.not_false, chI]
  rw [show decide ((1 : Int) ≤ (v.length : Int)) = decide (1 ≤ v.length) by congr 1; simp; omega, show decide ((v.length : Int) ≤ 8) = decide (v.length ≤ 8) by congr 1; simp; omega]
  cases hb : (decide (1 ≤ v.length) && decide (v.length ≤ 8)) with
  | false => simp only [zF, c1, c2, c3, c4, c5, bQ, br, cnx, crt, bR, bq, bh, bp, bn, bS, bg, a6, aZ, aY, aX, aG, aw, az, aP, aL, aW, aQ, aM, aR, aV, ai, aN, bf, ay, aC, av, au, ap, aF, am, ao, ax, al, aA, aB, aU, b0, bZ, bC, bB, Bool.not_true, Bool.not_false, Bool.false_and]
  | true =>
    simp only [u8, Bool.true_and]
    rw [gJ syB (by omega) fun z hz => EW (h z hz)]
    simp only [c1, c2, c3, c4, c5, bQ, br, cnx, crt, bR, bq, bh, bp, bn, bS, bg, a6, aZ, aY, aX, aG, aw, az, aP, aL, aW, aQ, aM, aR, aV, ai, aN, bf, ay, aC, av, au, ap, aF, am, ao, ax, al, aA, aB, aU, b0, bZ, bC, bB, Bool.not_true, Bool.not_false, List.all_map]
    rfl
theorem jE {α R : Type} {B : α → Unit → Option (Fl Unit R)} (g : α → Option (Fl Unit R)) (hg : ∀ x e, g x = some e → ∀ s, e ≠ .nx s) : ∀ {xs : List α}, (∀ x ∈ xs, B x () = some ((g x).getD (.nx ()))) → cD B xs () = some ((xs.findSome? g).getD (.nx ()))
  | [], _ => rfl
  | x :: xs, h => by
    show ah (B x ()) (fun s => cD B xs s) = _
    rw [h x List.mem_cons_self, List.findSome?_cons]
    cases e : g x with
    | none => exact jE g hg fun y hy => h y (List.mem_cons_of_mem _ hy)
    | some fl =>
      have := hg x fl e
      cases fl with
      | nx s => exact absurd rfl (this s)
      | rt r => rfl
      | ex r => rfl
theorem iL {α β γ : Type} (f : α → Option β) (h : β → γ) : ∀ xs : List α, xs.findSome? (fun x => (f x).map h) = (xs.findSome? f).map h
  | [] => rfl
  | x :: xs => by
    rw [List.findSome?_cons, List.findSome?_cons]
    cases f x with
    | none => exact iL f h xs
    | some y => rfl
def oz : Str := "abcdefghijklmnopqrstuvwxyz"
theorem C3 (c : Nat) : rL ⟨#[c]⟩ oz = some (decide (97 ≤ c) && decide (c ≤ 122)) := by
  show some (decide (c ∈ oz.cps.toList)) = _
  congr 1
  rw [Bool.eq_iff_iff, Bool.and_eq_true, decide_eq_true_iff, decide_eq_true_iff, decide_eq_true_iff]
  have e : oz.cps.toList = List.range' 97 26 := by decide +kernel
  rw [e, List.mem_range']
  constructor
  · rintro ⟨i, hi, rfl⟩; omega
  · rintro ⟨h1, h2⟩; exact ⟨c - 97, by omega, by omega⟩
theorem CZ {v : List Str} (hl : v.length ≤ 1000) (h : ∀ z ∈ v, z.cps.size ≤ 4) : fM v = some (veB v) := by
  unfold fM veB
  simp only [c1, c2, c3, c4, c5, bQ, br, cnx, crt, bR, bq, bh, bp, bn, bS, bg, a6, aZ, aY, aX, aG, aw, az, aP, aL, aW, aQ, aM, aR, aV, ai, aN, bf, ay, aC, av, au, ap, aF, am, ao, ax, al, aA, aB, aU, b0, bZ, bC, bB, Bool.not_true, Bool.not_false, chI]
  rw [show decide ((1 : Int) ≤ (v.length : Int)) = decide (1 ≤ v.length) by congr 1; simp; omega, show decide ((v.length : Int) ≤ 8) = decide (v.length ≤ 8) by congr 1; simp; omega]
  cases hb : (decide (1 ≤ v.length) && decide (v.length ≤ 8)) with
  | false => simp only [Bool.not_false, if_true, c1, c2, c3, c4, c5, bQ, br, cnx, crt, bR, bq, bh, bp, bn, bS, bg, a6, aZ, aY, aX, aG, aw, az, aP, aL, aW, aQ, aM, aR, aV, ai, aN, bf, ay, aC, av, au, ap, aF, am, ao, ax, al, aA, aB, aU, b0, bZ, bC, bB, Bool.not_true, Bool.not_false, Bool.false_and]
  | true =>
    simp only [Bool.not_true, Bool.false_eq_true, if_false, c1, c2, c3, c4, c5, bQ, br, cnx, crt, bR, bq, bh, bp, bn, bS, bg, a6, aZ, aY, aX, aG, aw, az, aP, aL, aW, aQ, aM, aR, aV, ai, aN, bf, ay, aC, av, au, ap, aF, am, ao, ax, al, aA, aB, aU, b0, bZ, bC, bB, Bool.not_true, Bool.not_false, Bool.true_and]
    rw [jE (fun z => if syB z = true then none else some (.rt false)) (fun z e he s => by
      split at he
      · cases he
      · cases he; intro q; cases q) fun z hz => ?_]
    · have : ∀ xs : List Str, (xs.findSome? fun z => if syB z = true then none else some (Fl.rt (S := Unit) false)) = if xs.all syB = true then none else some (.rt false) := by
        intro xs
        induction xs with
        | nil => rfl
        | cons z xs ih =>
          rw [List.findSome?_cons, List.all_cons]
          cases e : syB z with
          | true => rw [if_pos rfl, Bool.true_and]; exact ih
          | false => rw [if_neg Bool.false_ne_true, Bool.false_and, if_neg Bool.false_ne_true]
      rw [this]
      cases v.all syB <;> rfl
    · have hz4 := h z hz
      rw [show ("abcdefghijklmnopqrstuvwxyz" : Str) = oz from rfl]
      simp only [c1, c2, c3, c4, c5, bQ, br, cnx, crt, bR, bq, bh, bp, bn, bS, bg, a6, aZ, aY, aX, aG, aw, az, aP, aL, aW, aQ, aM, aR, aV, ai, aN, bf, ay, aC, av, au, ap, aF, am, ao, ax, al, aA, aB, aU, b0, bZ, bC, bB, Bool.not_true, Bool.not_false, yj hz4]
      rw [chI]
      unfold syB
      rw [show decide ((1 : Int) ≤ (z.cps.size : Int)) = decide (1 ≤ z.cps.size) by congr 1; simp; omega, show decide ((z.cps.size : Int) ≤ 3) = decide (z.cps.size ≤ 3) by congr 1; simp; omega]
      cases hb : (decide (1 ≤ z.cps.size) && decide (z.cps.size ≤ 3)) with
      | false => rfl
      | true =>
        unfold ug
        simp only [c1, c2, c3, c4, c5, bQ, br, cnx, crt, bR, bq, bh, bp, bn, bS, bg, a6, aZ, aY, aX, aG, aw, az, aP, aL, aW, aQ, aM, aR, aV, ai, aN, bf, ay, aC, av, au, ap, aF, am, ao, ax, al, aA, aB, aU, b0, bZ, bC, bB, Bool.not_true, Bool.not_false, Bool.true_and]
        rw [gJ (fun s : Str => match s.cps.toList with | [c] => decide (97 ≤ c) && decide (c ≤ 122) | _ => false) (by rw [List.length_map, Array.length_toList]; omega)]
        · simp only [c1, c2, c3, c4, c5, bQ, br, cnx, crt, bR, bq, bh, bp, bn, bS, bg, a6, aZ, aY, aX, aG, aw, az, aP, aL, aW, aQ, aM, aR, aV, ai, aN, bf, ay, aC, av, au, ap, aF, am, ao, ax, al, aA, aB, aU, b0, bZ, bC, bB, Bool.not_true, Bool.not_false, List.all_map]
          change ah (if (false || !(z.cps.toList.all fun c => decide (97 ≤ c) && decide (c ≤ 122))) = true then some (Fl.rt false) else some (Fl.nx ())) _ = _
          cases (z.cps.toList.all fun c => decide (97 ≤ c) && decide (c ≤ 122)) <;> rfl
        · intro x hx
          obtain ⟨c, hc, rfl⟩ := List.mem_map.mp hx
          exact C3 c
theorem k_ {α β R : Type} {B : β → Unit → Option (Fl Unit R)} {g : α → β} : ∀ xs : List α, cD B (xs.map g) () = cD (fun x s => B (g x) s) xs ()
  | [] => rfl
  | x :: xs => by
    show ah (B (g x) ()) (fun s => cD B (xs.map g) s) = ah (B (g x) ()) fun s => cD (fun x s => B (g x) s) xs s
    have : (fun s : Unit => cD B (xs.map g) s) = fun s => cD (fun x s => B (g x) s) xs s := by funext s; cases s; exact k_ xs
    rw [this]
theorem yO {α : Type} (xs : List α) (z : α) : (xs.zipIdx.map fun p => (⟨(p.2 : Int), p.1⟩ : P2 Int α)) = (List.range xs.length).map fun k => ⟨(k : Int), xs.getD k z⟩ := by
  apply List.ext_getElem?
  intro i
  rw [List.getElem?_map, List.getElem?_map, List.getElem?_zipIdx]
  by_cases h : i < xs.length
  · rw [List.getElem?_eq_getElem h, List.getElem?_range h]
    simp [List.getD_eq_getElem?_getD, List.getElem?_eq_getElem h]
  · rw [List.getElem?_eq_none (by omega), List.getElem?_eq_none (by simp; omega)]
    rfl
def row1 (b : BL) : Option Nat := (List.range b.length).findSome? fun k => if veB (b.getD k []) = true then none else some k
def o4 (b : BL) : Option (Nat × Nat) := (List.range b.length).findSome? fun j => (List.range j).findSome? fun i => if alk (b.getD i []) (b.getD j []) = true then some (i, j) else none
def j6 (b : BL) : P3 Str Int Int := if 1 ≤ b.length ∧ b.length ≤ 40 then (match row1 b with
  | some i => ⟨"BadVerse", (i : Int), 0⟩
  | none => match o4 b with
    | some p => ⟨"Alike", (p.1 : Int), (p.2 : Int)⟩
    | none => ⟨"", 0, 0⟩) else ⟨"BadBook", 0, 0⟩
def ot (b : BL) : Rs Unit := if 1 ≤ b.length ∧ b.length ≤ 40 then (match row1 b with
  | some i => .ex ⟨"BadVerse", [("row", (i : Int))]⟩
  | none => match o4 b with
    | some p => .ex ⟨"Alike", [("other", (p.2 : Int)), ("one", (p.1 : Int))]⟩
    | none => .ok ()) else .ex ⟨"BadBook", []⟩
theorem B6 {β R : Type} {b : BL} {B : β → Unit → Option (Fl Unit R)} {k : Nat → β} (st : Nat → Fl Unit R) (hst : ∀ i s, st i ≠ .nx s) (h : ∀ i, i < b.length → B (k i) () = some (if veB (b.getD i []) = true then .nx () else st i)) : cD B ((List.range b.length).map k) () = some (((row1 b).map st).getD (.nx ())) := by
  rw [k_, jE (fun i => if veB (b.getD i []) = true then none else some (st i)) (fun i e he s => by
    split at he
    · cases he
    · cases he; exact hst i s) fun i hi => ?_]
  · unfold row1
    rw [← iL]
    congr 2
    congr 1
    funext i
    split <;> rfl
  · rw [h i (List.mem_range.mp hi)]
    split <;> rfl
theorem B5 {R : Type} {b : BL} {B : Int → Unit → Option (Fl Unit R)} {I : Int → Int → Unit → Option (Fl Unit R)} (st : Nat → Nat → Fl Unit R) (hst : ∀ i j s, st i j ≠ .nx s)
    (hB : ∀ j : Nat, j < b.length → B (j : Int) () = ah (S1 := Unit) (cD (I (j : Int)) ((List.range j).map fun k : Nat => (k : Int)) ()) fun _ => some (.nx ()))
    (hI : ∀ i j : Nat, i < j → j < b.length → I (j : Int) (i : Int) () = some (if alk (b.getD i []) (b.getD j []) = true then st i j else .nx ())) : cD B ((List.range b.length).map fun k : Nat => (k : Int)) () = some (((o4 b).map fun p => st p.1 p.2).getD (.nx ())) := by
  have inner : ∀ j, j < b.length → cD (I (j : Int)) ((List.range j).map fun k : Nat => (k : Int)) () = some ((((List.range j).findSome? fun i => if alk (b.getD i []) (b.getD j []) = true then some (i, j) else none).map fun p => st p.1 p.2).getD (.nx ())) := fun j hj => by
    rw [k_, jE (fun i => if alk (b.getD i []) (b.getD j []) = true then some (st i j) else none) (fun i e he s => by
      split at he
      · cases he; exact hst i j s
      · cases he) fun i hi => ?_]
    · rw [← iL]
      congr 2
      congr 1
      funext i
      split <;> rfl
    · rw [hI i j (List.mem_range.mp hi) hj]
      split <;> rfl
  rw [k_, jE (fun j => ((List.range j).findSome? fun i => if alk (b.getD i []) (b.getD j []) = true then some (i, j) else none).map fun p => st p.1 p.2) (fun j e he s => by
    obtain ⟨p, _, rfl⟩ := Option.map_eq_some_iff.mp he
    exact hst _ _ s) fun j hj => ?_]
  · unfold o4
    rw [← iL]
  · have hj := List.mem_range.mp hj
    rw [hB j hj, inner j hj]
    cases e : ((List.range j).findSome? fun i => if alk (b.getD i []) (b.getD j []) = true then some (i, j) else none) with
    | none => rfl
    | some p =>
      show ah (some (st p.1 p.2)) _ = some (st p.1 p.2)
      have := hst p.1 p.2
      cases h : st p.1 p.2 with
      | nx s => exact absurd h (this s)
      | rt r => rfl
      | ex r => rfl
theorem EB {b : BL} {N L : Nat} (hN : N ≤ 100000) (hL : L ≤ 1000) (hb : Bz N L b) : eg b = some (j6 b) := by
  have h1 := hb.1
  have at_ : ∀ k : Nat, k < b.length → atI b (k : Int) = some (b.getD k []) := fun k hk => by rw [jx (z := []) (by omega) (by omega)]; rfl
  have mem : ∀ k : Nat, k < b.length → b.getD k [] ∈ b := fun k hk => g_ hk
  unfold eg j6
  simp only [c1, c2, c3, c4, c5, bQ, br, cnx, crt, bR, bq, bh, bp, bn, bS, bg, a6, aZ, aY, aX, aG, aw, az, aP, aL, aW, aQ, aM, aR, aV, ai, aN, bf, ay, aC, av, au, ap, aF, am, ao, ax, al, aA, aB, aU, b0, bZ, bC, bB, Bool.not_true, Bool.not_false, chI]
  rw [show decide ((1 : Int) ≤ (b.length : Int)) = decide (1 ≤ b.length) by congr 1; simp; omega, show decide ((b.length : Int) ≤ 40) = decide (b.length ≤ 40) by congr 1; simp; omega]
  by_cases hr : 1 ≤ b.length ∧ b.length ≤ 40
  · rw [if_pos hr, decide_eq_true hr.1, decide_eq_true hr.2, fB (by omega) (by omega)]
    simp only [c1, c2, c3, c4, c5, bQ, br, cnx, crt, bR, bq, bh, bp, bn, bS, bg, a6, aZ, aY, aX, aG, aw, az, aP, aL, aW, aQ, aM, aR, aV, ai, aN, bf, ay, aC, av, au, ap, aF, am, ao, ax, al, aA, aB, aU, b0, bZ, bC, bB, Bool.not_true, Bool.not_false, Bool.and_self, Bool.not_true, Bool.false_eq_true, if_false]
    rw [show ((b.length : Int)).toNat = b.length from rfl]
    rw [B6 (k := fun k : Nat => (k : Int)) (fun i => .rt ⟨"BadVerse", (i : Int), 0⟩) (fun i s z => by cases z) fun i hi => ?_]
    · cases row1 b with
      | some i => rfl
      | none =>
        simp only [Option.map_none, Option.getD_none, c1, c2, c3, c4, c5, bQ, br, cnx, crt, bR, bq, bh, bp, bn, bS, bg, a6, aZ, aY, aX, aG, aw, az, aP, aL, aW, aQ, aM, aR, aV, ai, aN, bf, ay, aC, av, au, ap, aF, am, ao, ax, al, aA, aB, aU, b0, bZ, bC, bB, Bool.not_true, Bool.not_false]
        rw [B5 (I := fun x7 x13 s12 => (ah (S1 := Unit) (a9 (b2 dY (atI b x13) (atI b x7)) (some (Fl.rt ⟨"Alike", x13, x7⟩)) (some (Fl.nx ()))) fun s15 => some (Fl.nx ()))) (fun i j => .rt ⟨"Alike", (i : Int), (j : Int)⟩) (fun i j s z => by cases z) (fun j hj => ?_) fun i j hi hj => ?_]
        · cases o4 b with
          | some p => rfl
          | none => rfl
        · rw [fB (by omega) (by omega)]
          rfl
        · rw [at_ i (by omega), at_ j hj]
          simp only [c1, c2, c3, c4, c5, bQ, br, cnx, crt, bR, bq, bh, bp, bn, bS, bg, a6, aZ, aY, aX, aG, aw, az, aP, aL, aW, aQ, aM, aR, aV, ai, aN, bf, ay, aC, av, au, ap, aF, am, ao, ax, al, aA, aB, aU, b0, bZ, bC, bB, Bool.not_true, Bool.not_false, t_]
          cases alk (b.getD i []) (b.getD j []) <;> rfl
    · rw [at_ i hi]
      have := hb.2 _ (mem i hi)
      simp only [c1, c2, c3, c4, c5, bQ, br, cnx, crt, bR, bq, bh, bp, bn, bS, bg, a6, aZ, aY, aX, aG, aw, az, aP, aL, aW, aQ, aM, aR, aV, ai, aN, bf, ay, aC, av, au, ap, aF, am, ao, ax, al, aA, aB, aU, b0, bZ, bC, bB, Bool.not_true, Bool.not_false, CZ (show (b.getD i []).length ≤ 1000 by omega) this.2]
      cases veB (b.getD i []) <;> rfl
  · rw [if_neg hr, zj hr]
    rfl
theorem BI (x y : List Str) : (decide (y.take x.length = x) || decide (x.take y.length = y)) = alk x y := by
  unfold alk
  rw [Bool.eq_iff_iff, Bool.or_eq_true, decide_eq_true_iff, decide_eq_true_iff, decide_eq_true_iff]
  by_cases h : x.length ≤ y.length
  · rw [Nat.min_eq_left h, List.take_of_length_le (Nat.le_refl x.length)]
    constructor
    · rintro (e | e)
      · exact e.symm
      · rw [List.take_of_length_le h] at e
        rw [e, List.take_of_length_le (Nat.le_refl _)]
    · intro e; exact .inl e.symm
  · rw [Nat.min_eq_right (by omega), List.take_of_length_le (Nat.le_refl y.length)]
    constructor
    · rintro (e | e)
      · rw [List.take_of_length_le (by omega)] at e
        rw [e, List.take_of_length_le (Nat.le_refl _)]
      · exact e
    · intro e; exact .inr e
theorem CE {b : BL} {N L : Nat} (hN : N ≤ 100000) (hL : L ≤ 1000) (hb : Bz N L b) : eh b = some (ot b) := by
  have h1 := hb.1
  have at_ : ∀ k : Nat, k < b.length → atI b (k : Int) = some (b.getD k []) := fun k hk => by rw [jx (z := []) (by omega) (by omega)]; rfl
  have mem : ∀ k : Nat, k < b.length → b.getD k [] ∈ b := fun k hk => g_ hk
  unfold eh ot
  simp only [c1, c2, c3, c4, c5, bQ, br, cnx, crt, bR, bq, bh, bp, bn, bS, bg, a6, aZ, aY, aX, aG, aw, az, aP, aL, aW, aQ, aM, aR, aV, ai, aN, bf, ay, aC, av, au, ap, aF, am, ao, ax, al, aA, aB, aU, b0, bZ, bC, bB, Bool.not_true, Bool.not_false, chI]
  rw [show decide ((1 : Int) ≤ (b.length : Int)) = decide (1 ≤ b.length) by congr 1; simp; omega, show decide ((b.length : Int) ≤ 40) = decide (b.length ≤ 40) by congr 1; simp; omega]
  by_cases hr : 1 ≤ b.length ∧ b.length ≤ 40
  · rw [if_pos hr, decide_eq_true hr.1, decide_eq_true hr.2, fB (by omega) (by omega)]
    unfold gX
    rw [yO b []]
    simp only [c1, c2, c3, c4, c5, bQ, br, cnx, crt, bR, bq, bh, bp, bn, bS, bg, a6, aZ, aY, aX, aG, aw, az, aP, aL, aW, aQ, aM, aR, aV, ai, aN, bf, ay, aC, av, au, ap, aF, am, ao, ax, al, aA, aB, aU, b0, bZ, bC, bB, Bool.not_true, Bool.not_false, Bool.and_self, Bool.not_true, Bool.false_eq_true, if_false]
    rw [show ((b.length : Int)).toNat = b.length from rfl]
    rw [B6 (k := fun k : Nat => (⟨(k : Int), b.getD k []⟩ : P2 Int (List Str))) (fun i => .ex ⟨"BadVerse", [("row", (i : Int))]⟩) (fun i s z => by cases z) fun i hi => ?_]
    · cases row1 b with
      | some i => rfl
      | none =>
        simp only [Option.map_none, Option.getD_none, c1, c2, c3, c4, c5, bQ, br, cnx, crt, bR, bq, bh, bp, bn, bS, bg, a6, aZ, aY, aX, aG, aw, az, aP, aL, aW, aQ, aM, aR, aV, ai, aN, bf, ay, aC, av, au, ap, aF, am, ao, ax, al, aA, aB, aU, b0, bZ, bC, bB, Bool.not_true, Bool.not_false]
        rw [B5 (I := fun x7 x13 s12 => (ah (S1 := Unit) (a9 (orM (b2 eK (atI b x13) (atI b x7)) (b2 eK (atI b x7) (atI b x13))) (some (Fl.ex ⟨"Alike", [("other", x7), ("one", x13)]⟩)) (some (Fl.nx ()))) fun s15 => some (Fl.nx ()))) (fun i j => .ex ⟨"Alike", [("other", (j : Int)), ("one", (i : Int))]⟩) (fun i j s z => by cases z) (fun j hj => ?_) fun i j hi hj => ?_]
        · cases o4 b with
          | some p => rfl
          | none => rfl
        · rw [fB (by omega) (by omega)]
          rfl
        · rw [at_ i (by omega), at_ j hj]
          simp only [c1, c2, c3, c4, c5, bQ, br, cnx, crt, bR, bq, bh, bp, bn, bS, bg, a6, aZ, aY, aX, aG, aw, az, aP, aL, aW, aQ, aM, aR, aV, ai, aN, bf, ay, aC, av, au, ap, aF, am, ao, ax, al, aA, aB, aU, b0, bZ, bC, bB, Bool.not_true, Bool.not_false, w6, BI]
          cases alk (b.getD i []) (b.getD j []) <;> rfl
    · have := hb.2 _ (mem i hi)
      simp only [c1, c2, c3, c4, c5, bQ, br, cnx, crt, bR, bq, bh, bp, bn, bS, bg, a6, aZ, aY, aX, aG, aw, az, aP, aL, aW, aQ, aM, aR, aV, ai, aN, bf, ay, aC, av, au, ap, aF, am, ao, ax, al, aA, aB, aU, b0, bZ, bC, bB, Bool.not_true, Bool.not_false, EM (show (b.getD i []).length ≤ 1000 by omega) this.2]
      cases veB (b.getD i []) <;> rfl
  · rw [if_neg hr, zj hr]
    rfl
def EC (b : BL) : Rs BookT := match ot b with
  | .ok _ => .ok ⟨b⟩
  | .ex e => .ex e
theorem C6 {b : BL} {N L : Nat} (hN : N ≤ 100000) (hL : L ≤ 1000) (hb : Bz N L b) : c_ b = some (EC b) := by
  have h1 := hb.1
  unfold c_ EC
  rw [c1 (g := eh), CE hN hL hb]
  cases ot b with
  | ok u =>
    have e : lcM (fun x1 : List Str => lcE (some true) (b1 jh (some x1))) b = some b := by
      rw [gJ (me := fun x1 : List Str => b1 jh (some x1)) (fun x => x) (by omega) fun x _ => rfl, List.map_id']
    rw [xbO, c1 (a := b), e]
    rfl
  | ex e => rw [xbE]; rfl
theorem Bz.mono {N M L K : Nat} {b : BL} (h : Bz N L b) (h1 : N ≤ M) (h2 : L ≤ K) : Bz M K b := ⟨Nat.le_trans h.1 h1, fun v hv => ⟨Nat.le_trans (h.2 v hv).1 h2, (h.2 v hv).2⟩⟩
theorem CI {N L : Nat} {b : BL} (h : Bz N L b) (hN : N ≤ 50000) {l : List Str} (h1 : l.length ≤ L + 9) (h2 : ∀ z ∈ l, z.cps.size ≤ 4) {a : Int} (a0 : 0 ≤ a) : ∃ w, b2 dw (b2 dw (some (iD b none (some a))) (some [l])) (some (iD b (some a) none)) = some w ∧ Bz (2 * N + 1) (L + 9) w ∧ w ≠ [] := by
  have hl := h.1
  rw [e8 _ a0, lf _ a0]
  refine ⟨b.take a.toNat ++ [l] ++ b.drop a.toNat, ?_, ⟨?_, fun v hv => ?_⟩, by simp⟩
  · rw [c2, hX (by rw [List.length_take]; simp; omega), c2, hX (by rw [List.length_append, List.length_take, List.length_drop]; simp; omega)]
  · rw [List.length_append, List.length_append, List.length_take, List.length_drop]; simp; omega
  · rcases List.mem_append.mp hv with hv | hv
    · rcases List.mem_append.mp hv with hv | hv
      · have := h.2 v (List.mem_of_mem_take hv)
        exact ⟨by omega, this.2⟩
      · rw [List.mem_singleton.mp hv]; exact ⟨h1, h2⟩
    · have := h.2 v (List.mem_of_mem_drop hv)
      exact ⟨by omega, this.2⟩
theorem wl {N L : Nat} {b : BL} (hN : N ≤ 50000) (hL : L ≤ 900) (hb : Bz N L b) (ne : b ≠ []) {d : List Int} (hd : Nm 5 d) : ∃ w, dJ b d = some w ∧ Bz (2 * N + 1) (L + 9) w ∧ w ≠ [] := by
  have hl := hb.1
  have l0 := List.length_pos_iff.mpr ne
  unfold dJ
  have a0 := Int.emod_nonneg (gI d (Int.toNat 1)) (show ((b.length : Int) + 1) ≠ 0 by omega)
  have q0 := Int.emod_nonneg (gI d (Int.toNat 2)) (show (b.length : Int) ≠ 0 by omega)
  have q1 := Int.emod_lt_of_pos (gI d (Int.toNat 2)) (show (0 : Int) < (b.length : Int) by omega)
  simp only [c1, c2, c3, c4, c5, bQ, br, cnx, crt, bR, bq, bh, bp, bn, bS, bg, a6, aZ, aY, aX, aG, aw, az, aP, aL, aW, aQ, aM, aR, aV, ai, aN, bf, ay, aC, av, au, ap, aF, am, ao, ax, al, aA, aB, aU, b0, bZ, bC, bB, Bool.not_true, Bool.not_false, et hd (show (0 : Int) ≤ 0 by omega) (by omega), et hd (show (0 : Int) ≤ 1 by omega) (by omega), et hd (show (0 : Int) ≤ 2 by omega) (by omega), et hd (show (0 : Int) ≤ 3 by omega) (by omega), et hd (show (0 : Int) ≤ 4 by omega) (by omega), bY (show (0 : Int) < (b.length : Int) + 1 by omega), bY (show (0 : Int) < (b.length : Int) by omega), bY (show (0 : Int) < 6 by omega), bY (show (0 : Int) < 9 by omega), bY (show (0 : Int) < 3 by omega), bY (show (0 : Int) < 4 by omega), jx (z := ([] : List Str)) q0 q1]
  generalize gI d (Int.toNat 1) % ((b.length : Int) + 1) = at_ at a0
  have hv := hb.2 _ (g_ (xs := b) (z := []) (i := (gI d (Int.toNat 2) % (b.length : Int)).toNat) (by omega))
  generalize b.getD (gI d (Int.toNat 2) % (b.length : Int)).toNat [] = line at hv
  have hm0 : (0 : Int) < (if (line.length : Int) > 1 then (line.length : Int) else 1) := by split <;> omega
  rw [bY hm0]
  have here0 := Int.emod_nonneg (gI d (Int.toNat 3)) (Int.ne_of_gt hm0)
  generalize gI d (Int.toNat 3) % (if (line.length : Int) > 1 then (line.length : Int) else 1) = here at here0
  have k9 := Int.emod_nonneg (gI d (Int.toNat 4)) (show (9 : Int) ≠ 0 by omega)
  have k9' := Int.emod_lt_of_pos (gI d (Int.toNat 4)) (show (0 : Int) < 9 by omega)
  have k3 := Int.emod_nonneg (gI d (Int.toNat 4)) (show (3 : Int) ≠ 0 by omega)
  have k4 := Int.emod_nonneg (gI d (Int.toNat 4)) (show (4 : Int) ≠ 0 by omega)
  have k4' := Int.emod_lt_of_pos (gI d (Int.toNat 4)) (show (0 : Int) < 4 by omega)
  generalize gI d (Int.toNat 4) % 9 = r9 at k9 k9'
  generalize gI d (Int.toNat 4) % 3 = r3 at k3
  generalize gI d (Int.toNat 4) % 4 = r4 at k4 k4'
  have m0 := Int.emod_nonneg (gI d (Int.toNat 0)) (show (6 : Int) ≠ 0 by omega)
  have m6 := Int.emod_lt_of_pos (gI d (Int.toNat 0)) (show (0 : Int) < 6 by omega)
  generalize gI d (Int.toNat 0) % 6 = m at m0 m6
  rw [c1 (a := here)]
  have tk : ∀ (n : Nat) (z : Str), z ∈ line.take n → z.cps.size ≤ 4 := fun n z hz => hv.2 z (List.mem_of_mem_take hz)
  have done : ∀ {l : List Str}, l.length ≤ L + 9 → (∀ z ∈ l, z.cps.size ≤ 4) → ∃ w, b2 dw (b2 dw (some (iD b none (some at_))) (some [l])) (some (iD b (some at_) none)) = some w ∧ Bz (2 * N + 1) (L + 9) w ∧ w ≠ [] := fun h1 h2 => CI hb hN h1 h2 a0
  have hm : m = 0 ∨ m = 1 ∨ m = 2 ∨ m = 3 ∨ m = 4 ∨ m = 5 := by omega
  rcases hm with rfl | rfl | rfl | rfl | rfl | rfl
  · rw [decide_eq_true (show (0 : Int) = 0 from rfl), if_pos rfl, cy (by decide), c2 (g := atI)]
    obtain ⟨odd, eo, ho⟩ : ∃ z, atI ([("" : Str), "abcd", "A", "a b", "-", "a1", " a", "ab\n", "aB"] : List Str) r9 = some z ∧ z.cps.size ≤ 4 := by
      have all : ∀ z ∈ ([("" : Str), "abcd", "A", "a b", "-", "a1", " a", "ab\n", "aB"] : List Str), z.cps.size ≤ 4 := by decide +kernel
      have l9 : ([("" : Str), "abcd", "A", "a b", "-", "a1", " a", "ab\n", "aB"] : List Str).length = 9 := rfl
      generalize ([("" : Str), "abcd", "A", "a b", "-", "a1", " a", "ab\n", "aB"] : List Str) = odds at all l9
      exact ⟨_, jx (xs := odds) (z := "") k9 (by omega), all _ (g_ (xs := odds) (by omega))⟩
    rw [eo, c1, cy (by simp), e8 _ here0, lf _ (show (0 : Int) ≤ here + 1 by omega), c2 (a := line.take here.toNat), hX (by rw [List.length_take]; simp; omega), c2, hX (by rw [List.length_append, List.length_take, List.length_drop]; simp; omega), c1, cy (by simp)]
    obtain ⟨w, e, h⟩ := done (l := line.take here.toNat ++ [odd] ++ line.drop (here + 1).toNat) (by rw [List.length_append, List.length_append, List.length_take, List.length_drop]; simp; omega) (fun z hz => by
      rcases List.mem_append.mp hz with hz | hz
      · rcases List.mem_append.mp hz with hz | hz
        · exact tk _ z hz
        · rw [List.mem_singleton.mp hz]; exact ho
      · exact hv.2 z (List.mem_of_mem_drop hz))
    rw [e]
    exact ⟨w, rfl, h⟩
  · rw [decide_eq_false (show ¬ (1 : Int) = 0 by omega), if_neg Bool.false_ne_true, cnx, decide_eq_true (show (1 : Int) = 1 from rfl), if_pos rfl, cy (by simp), e8 line here0]
    obtain ⟨w, e, h⟩ := done (l := line.take here.toNat) (by rw [List.length_take]; omega) (tk _)
    rw [e]
    exact ⟨w, rfl, h⟩
  · rw [decide_eq_false (show ¬ (2 : Int) = 0 by omega), if_neg Bool.false_ne_true, cnx, decide_eq_false (show ¬ (2 : Int) = 1 by omega), if_neg Bool.false_ne_true, cnx, decide_eq_true (show (2 : Int) = 2 from rfl), if_pos rfl]
    have er : ww ("a" : Str) r9 = some (List.replicate r9.toNat ("a" : Str)) := by unfold ww; rw [if_pos ⟨k9, by omega⟩]
    rw [er, c2 (a := line), hX (by rw [List.length_replicate]; omega), c2 (g := ar), al, c1 (g := aK), cy (by simp)]
    obtain ⟨w, e, h⟩ := done (l := line ++ List.replicate r9.toNat ("a" : Str)) (by rw [List.length_append, List.length_replicate]; omega) (fun z hz => by
      rcases List.mem_append.mp hz with hz | hz
      · exact hv.2 z hz
      · rw [(List.mem_replicate.mp hz).2]; decide)
    rw [e]
    exact ⟨w, rfl, h⟩
  · rw [decide_eq_false (show ¬ (3 : Int) = 0 by omega), if_neg Bool.false_ne_true, cnx, decide_eq_false (show ¬ (3 : Int) = 1 by omega), if_neg Bool.false_ne_true, cnx, decide_eq_false (show ¬ (3 : Int) = 2 by omega), if_neg Bool.false_ne_true, cnx, decide_eq_true (show (3 : Int) = 3 from rfl), if_pos rfl]
    rw [cy (xs := ([("zzz" : Str), "q"] : List Str)) (by simp), c3 (g := cM), au, e8 _ k3, e8 line here0, c2 (a := line.take here.toNat), hX (by rw [List.length_take, List.length_take]; simp; omega), c2 (g := ar), al, c1 (g := aK), cy (by simp)]
    obtain ⟨w, e, h⟩ := done (l := line.take here.toNat ++ ([("zzz" : Str), "q"] : List Str).take r3.toNat) (by rw [List.length_append, List.length_take, List.length_take]; simp; omega) (fun z hz => by
      rcases List.mem_append.mp hz with hz | hz
      · exact tk _ z hz
      · have all : ∀ z ∈ ([("zzz" : Str), "q"] : List Str), z.cps.size ≤ 4 := by decide +kernel
        exact all z (List.mem_of_mem_take hz))
    rw [e]
    exact ⟨w, rfl, h⟩
  · rw [decide_eq_false (show ¬ (4 : Int) = 0 by omega), if_neg Bool.false_ne_true, cnx, decide_eq_false (show ¬ (4 : Int) = 1 by omega), if_neg Bool.false_ne_true, cnx, decide_eq_false (show ¬ (4 : Int) = 2 by omega), if_neg Bool.false_ne_true, cnx, decide_eq_false (show ¬ (4 : Int) = 3 by omega), if_neg Bool.false_ne_true, cnx, decide_eq_true (show (4 : Int) = 4 from rfl), if_pos rfl]
    have er : vD ("q" : Str) (1 + r4) = some ⟨(List.replicate (1 + r4).toNat 113).toArray⟩ := by
      show (if 1 ≤ 1 + r4 ∧ 1 + r4 ≤ 1000 then some (⟨(List.replicate (1 + r4).toNat 113).toArray⟩ : Str) else none) = _
      rw [if_pos ⟨by omega, by omega⟩]
    rw [er, c2 (g := ar), al, c2 (g := ar), al, c1 (g := aK), cy (by simp), c2 (g := ar), al, c1 (g := aK), cy (by simp)]
    obtain ⟨w, e, h⟩ := done (l := ["zz", ⟨(List.replicate (1 + r4).toNat 113).toArray⟩]) (by simp) (fun z hz => by
      simp only [List.mem_cons, List.not_mem_nil, or_false] at hz
      rcases hz with rfl | rfl
      · decide
      · show ((List.replicate (1 + r4).toNat 113).toArray).size ≤ 4
        simp; omega)
    rw [e]
    exact ⟨w, rfl, h⟩
  · rw [decide_eq_false (show ¬ (5 : Int) = 0 by omega), if_neg Bool.false_ne_true, cnx, decide_eq_false (show ¬ (5 : Int) = 1 by omega), if_neg Bool.false_ne_true, cnx, decide_eq_false (show ¬ (5 : Int) = 2 by omega), if_neg Bool.false_ne_true, cnx, decide_eq_false (show ¬ (5 : Int) = 3 by omega), if_neg Bool.false_ne_true, cnx, decide_eq_false (show ¬ (5 : Int) = 4 by omega), if_neg Bool.false_ne_true, cnx]
    rw [gJ (fun x : List Str => [("qq" : Str)] ++ x.take 1) (by omega) fun x hx => by
      rw [cy (by simp), e8 _ (show (0 : Int) ≤ 1 by omega), c2, hX (by rw [List.length_take]; simp; omega)]
      rfl]
    rw [c2 (a := b), hX (by rw [List.length_map]; omega)]
    refine ⟨_, rfl, ⟨by rw [List.length_append, List.length_map]; omega, fun v hv' => ?_⟩, by simp [ne]⟩
    rcases List.mem_append.mp hv' with h | h
    · have := hb.2 v h
      exact ⟨by omega, this.2⟩
    · obtain ⟨x, hx, rfl⟩ := List.mem_map.mp h
      refine ⟨by rw [List.length_append, List.length_take]; simp; omega, fun z hz => ?_⟩
      rcases List.mem_append.mp hz with hz | hz
      · rw [List.mem_singleton.mp hz]; decide
      · exact (hb.2 x hx).2 z (List.mem_of_mem_take hz)
def u9 (z : Str) : Prop := 1 ≤ z.cps.size ∧ z.cps.size ≤ 8 ∧ ∀ c ∈ z.cps.toList, 97 ≤ c ∧ c ≤ 122
theorem Ai {cs : List Nat} (h1 : 1 ≤ cs.length) (h2 : cs.length ≤ 8) (h3 : ∀ c ∈ cs, 97 ≤ c ∧ c ≤ 122) : u9 (Txt.join (Str.ofString "") (cs.map fun c => (⟨#[c]⟩ : Str))) := by
  have e := tF cs
  refine ⟨?_, ?_, ?_⟩
  · rw [← Array.length_toList, e]; exact h1
  · rw [← Array.length_toList, e]; exact h2
  · rw [e]; exact h3
theorem FE (n : Int) : 0 ≤ n % 8 ∧ n % 8 < 8 := ⟨Int.emod_nonneg _ (by omega), Int.emod_lt_of_pos _ (by omega)⟩
theorem vC {n : Int} (h0 : 0 ≤ n) (h1 : n < 10000) : ∃ z, ef n = some z ∧ u9 z := by
  unfold ef
  have h3 := FE n
  simp only [c1, c2, c3, c4, c5, bQ, br, cnx, crt, bR, bq, bh, bp, bn, bS, bg, a6, aZ, aY, aX, aG, aw, az, aP, aL, aW, aQ, aM, aR, aV, ai, aN, bf, ay, aC, av, au, ap, aF, am, ao, ax, al, aA, aB, aU, b0, bZ, bC, bB, Bool.not_true, Bool.not_false, gt (show (0 : Int) < 8 by omega) (by omega), gt (show (0 : Int) < 61 by omega) (by omega), bY (show (0 : Int) < 8 by omega), bY (show (0 : Int) < 5 by omega)]
  rw [fB (by omega) (by omega)]
  simp only [c1, c2, c3, c4, c5, bQ, br, cnx, crt, bR, bq, bh, bp, bn, bS, bg, a6, aZ, aY, aX, aG, aw, az, aP, aL, aW, aQ, aM, aR, aV, ai, aN, bf, ay, aC, av, au, ap, aF, am, ao, ax, al, aA, aB, aU, b0, bZ, bC, bB, Bool.not_true, Bool.not_false]
  have h5 : 0 ≤ n / 61 % 5 ∧ n / 61 % 5 < 5 := ⟨Int.emod_nonneg _ (by omega), Int.emod_lt_of_pos _ (by omega)⟩
  obtain ⟨ys, e, hl, hy⟩ := vG (me := fun x1 : Int => b2 ixS (some ("abcdefghijklmnopqrstuvwxyz" : Str)) (b2 bJ (b2 cN (some (n / 8)) (fE x1 (n / 61 % 5))) (some (26 : Int)))) (P := fun z : Str => ∃ c : Nat, z = ⟨#[c]⟩ ∧ 97 ≤ c ∧ c ≤ 122) (xs := (List.range (1 + n % 8).toNat).map fun n : Nat => (n : Int)) (by simp; omega) fun x hx => by
    obtain ⟨k, hk, rfl⟩ := List.mem_map.mp hx
    have := List.mem_range.mp hk
    rw [iY (by omega) (by omega)]
    simp only [c1, c2, c3, c4, c5, bQ, br, cnx, crt, bR, bq, bh, bp, bn, bS, bg, a6, aZ, aY, aX, aG, aw, az, aP, aL, aW, aQ, aM, aR, aV, ai, aN, bf, ay, aC, av, au, ap, aF, am, ao, ax, al, aA, aB, aU, b0, bZ, bC, bB, Bool.not_true, Bool.not_false]
    rw [bY (by omega)]
    simp only [c1, c2, c3, c4, c5, bQ, br, cnx, crt, bR, bq, bh, bp, bn, bS, bg, a6, aZ, aY, aX, aG, aw, az, aP, aL, aW, aQ, aM, aR, aV, ai, aN, bf, ay, aC, av, au, ap, aF, am, ao, ax, al, aA, aB, aU, b0, bZ, bC, bB, Bool.not_true, Bool.not_false]
    obtain ⟨c, e, hc⟩ := pc (i := (n / 8 + (k : Int) * (n / 61 % 5)) % 26) (Int.emod_nonneg _ (by omega)) (Int.emod_lt_of_pos _ (by omega))
    exact ⟨_, e, c, rfl, hc⟩
  rw [e]
  have hcs : ∃ cs : List Nat, ys = cs.map (fun c => (⟨#[c]⟩ : Str)) ∧ ∀ c ∈ cs, 97 ≤ c ∧ c ≤ 122 := by
    clear e hl
    induction ys with
    | nil => exact ⟨[], rfl, fun c hc => by cases hc⟩
    | cons y ys ih =>
      obtain ⟨c, e, hc⟩ := hy y (by simp)
      obtain ⟨cs, e2, hcs⟩ := ih fun z hz => hy z (by simp [hz])
      refine ⟨c :: cs, by rw [List.map_cons, ← e2, e], fun d hd => ?_⟩
      rcases List.mem_cons.mp hd with z | z
      · subst z; exact hc
      · exact hcs d z
  obtain ⟨cs, rfl, hcs⟩ := hcs
  rw [List.length_map, List.length_map, List.length_range] at hl
  simp only [c1, c2, c3, c4, c5, bQ, br, cnx, crt, bR, bq, bh, bp, bn, bS, bg, a6, aZ, aY, aX, aG, aw, az, aP, aL, aW, aQ, aM, aR, aV, ai, aN, bf, ay, aC, av, au, ap, aF, am, ao, ax, al, aA, aB, aU, b0, bZ, bC, bB, Bool.not_true, Bool.not_false]
  unfold qS
  have hsum : ((cs.map fun c => (⟨#[c]⟩ : Str)).map (·.length)).sum = cs.length := by
    clear hl hcs e hy
    induction cs with
    | nil => rfl
    | cons c cs ih =>
      rw [List.map_cons, List.map_cons, List.sum_cons, ih, List.length_cons]
      show 1 + cs.length = _
      omega
  have hz : (Str.ofString "").length = 0 := by decide
  rw [if_pos (by rw [hsum, hz]; omega)]
  exact ⟨_, rfl, Ai (by omega) (by omega) hcs⟩
theorem wM {z : Str} (h : u9 z) : ij z = some true := by
  unfold ij
  have hl : rJ z = some (z.cps.size : Int) := by
    unfold rJ
    rw [if_pos (by show z.cps.size ≤ sizeLine; rw [sizeLine_eq]; have := h.2.1; omega)]
    rfl
  have h1 := h.1
  have h2 := h.2.1
  simp only [c1, c2, c3, c4, c5, bQ, br, cnx, crt, bR, bq, bh, bp, bn, bS, bg, a6, aZ, aY, aX, aG, aw, az, aP, aL, aW, aQ, aM, aR, aV, ai, aN, bf, ay, aC, av, au, ap, aF, am, ao, ax, al, aA, aB, aU, b0, bZ, bC, bB, Bool.not_true, Bool.not_false, hl, chI]
  rw [show decide ((1 : Int) ≤ (z.cps.size : Int)) = true from decide_eq_true (by omega), show decide ((z.cps.size : Int) ≤ 8) = true from decide_eq_true (by omega)]
  unfold ug
  simp only [c1, c2, c3, c4, c5, bQ, br, cnx, crt, bR, bq, bh, bp, bn, bS, bg, a6, aZ, aY, aX, aG, aw, az, aP, aL, aW, aQ, aM, aR, aV, ai, aN, bf, ay, aC, av, au, ap, aF, am, ao, ax, al, aA, aB, aU, b0, bZ, bC, bB, Bool.not_true, Bool.not_false, u8, Bool.and_self]
  rw [gJ (fun s : Str => match s.cps.toList with | [c] => decide (97 ≤ c) && decide (c ≤ 122) | _ => false) (by rw [List.length_map, Array.length_toList]; omega)]
  · simp only [c1, c2, c3, c4, c5, bQ, br, cnx, crt, bR, bq, bh, bp, bn, bS, bg, a6, aZ, aY, aX, aG, aw, az, aP, aL, aW, aQ, aM, aR, aV, ai, aN, bf, ay, aC, av, au, ap, aF, am, ao, ax, al, aA, aB, aU, b0, bZ, bC, bB, Bool.not_true, Bool.not_false, List.all_map]
    refine congrArg some (List.all_eq_true.mpr fun c hc => ?_)
    have := h.2.2 c hc
    show (decide (97 ≤ c) && decide (c ≤ 122)) = true
    rw [decide_eq_true this.1, decide_eq_true this.2]; rfl
  · intro x hx
    obtain ⟨c, hc, rfl⟩ := List.mem_map.mp hx
    show chM leS leS (some ⟨#[97]⟩) (some ⟨#[c]⟩) (some ⟨#[122]⟩) = some (decide (97 ≤ c) && decide (c ≤ 122))
    exact v_ (oA _ _) (oA _ _)
theorem Ev {d : List (Str × BookT)} {z : Str} (h : u9 z) (hn : d.lookup z = none) (hl : d.length < 8) : fq d z = some () := by
  unfold fq
  have e1 : yw z d = some false := by unfold yw; rw [hn]; rfl
  have e2 : geI (d.length : Int) 8 = some false := by rw [aQ]; exact congrArg some (decide_eq_false (by omega))
  rw [c1 (g := ij), wM h, c2 (g := yw), e1, c1 (g := vF), show vF d = some (d.length : Int) from rfl, c2 (g := geI), e2]
  rfl
theorem vB {b : BL} (h : b.length ≤ 100000) : df b = some b := by
  unfold df
  have e : lcM (fun x1 : List Str => lcE (some true) (b1 jh (some x1))) b = some b := by
    rw [gJ (me := fun x1 : List Str => b1 jh (some x1)) (fun x => x) h fun x _ => rfl, List.map_id']
  rw [c1 (a := b), e]
  rfl
theorem wK {d : List (Str × BookT)} {z : Str} (h : z ∉ d.map (·.1)) : d.lookup z = none := by
  induction d with
  | nil => rfl
  | cons x d ih =>
    rw [List.map_cons, List.mem_cons] at h
    rw [List.lookup_cons, show (z == x.1) = false from beq_eq_false_iff_ne.mpr fun e => h (.inl e)]
    exact ih fun z => h (.inr z)
theorem qR {d : List (Str × BookT)} {z : Str} {b : BookT} (h : z ∉ d.map (·.1)) : (d ++ [(z, b)]).lookup z = some b := by
  induction d with
  | nil => show (match z == z with | true => some b | false => List.lookup z []) = _; rw [beq_self_eq_true]
  | cons x d ih =>
    rw [List.map_cons, List.mem_cons] at h
    rw [List.cons_append, List.lookup_cons, show (z == x.1) = false from beq_eq_false_iff_ne.mpr fun e => h (.inl e)]
    exact ih fun z => h (.inr z)
theorem qK {h : HallT} {st : P2 (List (Str × BookT)) (List (Str × TableT))} {n : Str} {b : BL} {N L : Nat} (hs : h.stands[h.done]? = some st) (hn : u9 n) (hd : n ∉ st.a.map (·.1)) (nd : (st.a.map (·.1)).Nodup) (hl : st.a.length < 8) (h1 : h.done ≤ h.log.length) (h2 : h.done + 1 ≤ h.stands.length) (h3 : h.done < 100000)
    (hN : N ≤ 100000) (hL : L ≤ 1000) (hb : Bz N L b) : bP h n b = some (match ot b with
      | .ex e => .ex e
      | .ok _ => .ok ⟨h.log.take h.done ++ [⟨[.s "shelve", .s n, .l b]⟩], h.done + 1, h.stands.take (h.done + 1) ++ [⟨st.a ++ [(n, ⟨b⟩)], st.b⟩]⟩) := by
  have hb1 := hb.1
  unfold bP ox
  rw [hs]
  show (fq st.a n).bind _ = _
  rw [Ev hn (wK hd) hl]
  show (c_ b).bind _ = _
  rw [C6 hN hL hb]
  unfold EC
  cases ot b with
  | ex e => rfl
  | ok u =>
    show (df b).bind _ = _
    rw [vB (by omega)]
    show (if h.done ≤ h.log.length ∧ h.done + 1 ≤ h.stands.length ∧ h.done < 100000 ∧ n ∉ st.a.map (·.1) ∧ (st.a.map (·.1)).Nodup ∧ st.a.length < 100000 then _ else none) = _
    rw [if_pos ⟨h1, h2, h3, hd, nd, by omega⟩]
theorem zO {b : BL} : ot b = .ok () ∧ j6 b = ⟨"", 0, 0⟩ ∨ ∃ e, ot b = .ex e ∧ Cr e = some (j6 b) ∧ (j6 b).a ≠ "" := by
  unfold ot j6
  by_cases hr : 1 ≤ b.length ∧ b.length ≤ 40
  · rw [if_pos hr, if_pos hr]
    cases row1 b with
    | some i => exact .inr ⟨_, rfl, rfl, (by show ("BadVerse" : Str) ≠ ""; decide)⟩
    | none =>
      cases o4 b with
      | some p => exact .inr ⟨_, rfl, rfl, (by show ("Alike" : Str) ≠ ""; decide)⟩
      | none => exact .inl ⟨rfl, rfl⟩
  · rw [if_neg hr, if_neg hr]
    exact .inr ⟨_, rfl, rfl, (by show ("BadBook" : Str) ≠ ""; decide)⟩
theorem C9 {b : BL} (h : ot b = .ok ()) : b.length ≤ 40 ∧ ∀ v ∈ b, v.length ≤ 8 := by
  unfold ot at h
  by_cases hr : 1 ≤ b.length ∧ b.length ≤ 40
  · rw [if_pos hr] at h
    refine ⟨hr.2, fun v hv => ?_⟩
    cases e : row1 b with
    | some i => rw [e] at h; cases h
    | none =>
      unfold row1 at e
      obtain ⟨k, hk, rfl⟩ := List.getElem_of_mem hv
      have := List.findSome?_eq_none_iff.mp e k (List.mem_range.mpr hk)
      rw [List.getD_eq_getElem?_getD, List.getElem?_eq_getElem hk, Option.getD_some] at this
      by_cases q : veB b[k] = true
      · unfold veB at q
        rw [Bool.and_eq_true, Bool.and_eq_true] at q
        exact of_decide_eq_true q.1.2
      · rw [if_neg q] at this; cases this
  · rw [if_neg hr] at h; cases h
theorem xj {b : BL} (h : b.length ≤ 100000) : fO ⟨b⟩ = some b := by
  unfold fO
  simp only [c1, c2, c3, c4, c5, bQ, br, cnx, crt, bR, bq, bh, bp, bn, bS, bg, a6, aZ, aY, aX, aG, aw, az, aP, aL, aW, aQ, aM, aR, aV, ai, aN, bf, ay, aC, av, au, ap, aF, am, ao, ax, al, aA, aB, aU, b0, bZ, bC, bB, Bool.not_true, Bool.not_false]
  rw [gJ (fun x => x) h fun x _ => rfl, List.map_id']
  rfl
theorem Cw {b : BL} (hl : b.length ≤ 40) (hv8 : ∀ v ∈ b, v.length ≤ 8) : cW ⟨b⟩ b = some true := by
  unfold cW
  have hm : dh ⟨b⟩ = some (b.length : Int) := by unfold dh; rfl
  simp only [c1, c2, c3, c4, c5, bQ, br, cnx, crt, bR, bq, bh, bp, bn, bS, bg, a6, aZ, aY, aX, aG, aw, az, aP, aL, aW, aQ, aM, aR, aV, ai, aN, bf, ay, aC, av, au, ap, aF, am, ao, ax, al, aA, aB, aU, b0, bZ, bC, bB, Bool.not_true, Bool.not_false, hm, xj (show b.length ≤ 100000 by omega)]
  have s1 : ez (b.length : Int) (b.length : Int) = some true := by unfold ez; rw [if_pos (zV _)]; simp
  have s2 : ez b b = some true := by unfold ez; rw [if_pos ((oX b).mpr ⟨by omega, fun v hv => oW (by have := hv8 v hv; omega)⟩)]; simp
  simp only [s1, s2, c1, c2, c3, c4, c5, bQ, br, cnx, crt, bR, bq, bh, bp, bn, bS, bg, a6, aZ, aY, aX, aG, aw, az, aP, aL, aW, aQ, aM, aR, aV, ai, aN, bf, ay, aC, av, au, ap, aF, am, ao, ax, al, aA, aB, aU, b0, bZ, bC, bB, Bool.not_true, Bool.not_false, Bool.or_self, Bool.false_eq_true, if_false]
  rw [fB (by omega) (by omega)]
  simp only [c1, c2, c3, c4, c5, bQ, br, cnx, crt, bR, bq, bh, bp, bn, bS, bg, a6, aZ, aY, aX, aG, aw, az, aP, aL, aW, aQ, aM, aR, aV, ai, aN, bf, ay, aC, av, au, ap, aF, am, ao, ax, al, aA, aB, aU, b0, bZ, bC, bB, Bool.not_true, Bool.not_false]
  rw [gJ (fun _ => true) (by simp; omega) fun x hx => ?_]
  · simp only [c1, c2, c3, c4, c5, bQ, br, cnx, crt, bR, bq, bh, bp, bn, bS, bg, a6, aZ, aY, aX, aG, aw, az, aP, aL, aW, aQ, aM, aR, aV, ai, aN, bf, ay, aC, av, au, ap, aF, am, ao, ax, al, aA, aB, aU, b0, bZ, bC, bB, Bool.not_true, Bool.not_false]
    rw [show (List.map (fun _ => true) ((List.range ((b.length : Int)).toNat).map fun n : Nat => (n : Int))).all id = true from List.all_eq_true.mpr fun z hz => by
      obtain ⟨_, _, rfl⟩ := List.mem_map.mp hz; rfl]
  · obtain ⟨k, hk, rfl⟩ := List.mem_map.mp hx
    have := List.mem_range.mp hk
    have hi : InB b (k : Int) := ⟨by omega, by omega⟩
    rw [xk (b := ⟨b⟩) hi, wa hi, c2]
    unfold ez
    rw [if_pos (oW (by have := hv8 _ (vh hi); omega))]
    simp
theorem sR (c : BL) : ez (j6 c) (j6 c) = some true := by
  have : gn (en (j6 c)) = true := by
    unfold j6
    split
    · split
      · rfl
      · split <;> rfl
    · rfl
  unfold ez; rw [if_pos this, decide_eq_true rfl]
def core (S : HallT) (names : List Str) (z : Str) (s3 : BL) : Option (Fl Unit Bool) :=
  ah (S1 := Unit) (if decide (z ∈ names) = true then some (Fl.rt true) else some (Fl.nx ())) fun s6 => b1 (fun dH => b1 (fun fH =>
    ah (S1 := HallT) (b1 (fun r => if r.snd = true then some (Fl.rt false) else some (Fl.nx r.fst)) (CN (Option.map (fun r => (r.fst, !r.snd)) (o1 cv S (some z) (some dH) (some fH))) (some !decide (dH = s3))))
      fun s7 => ah (S1 := Unit) (if (!decide (fH.a = "")) = true then b1 (fun r => some (Fl.rt r)) (fG (b2 eqM (dm s7) (some names)) (b2 eqM (b1 b7 (dV s7)) (some ((names.length : Nat) : Int)))) else some (Fl.nx ()))
        fun s8 => b1 (fun r => some (Fl.rt r)) (fG (b2 eqM (dm s7) (b2 dw (some names) (aK [z]))) (b2 cW (fu s7 z) (some s3)))) (eg s3)) (gc s3)
def EO (d : List Int) (s3 : BL) : Option (Fl Unit Bool) :=
  b1 (fun names : List Str => ah (S1 := HallT) (cD (fun x5 s4 => pf bP s4 (some x5) (b1 aK (b2 ar (aK ["a"]) (some []))) fun v => some (Fl.nx v)) names jj) fun s4 => b1 (fun z => core s4 names z s3) (b1 ef (atI d 272)))
    (b3 cM (b1 aK (b2 ar (b1 ef (atI d 270)) (some []))) (some none) (bN (b2 bJ (atI d 271) (some 2))))
structure HOk (S : HallT) (names : List Str) : Prop where
  nd : names.Nodup
  ln : names.length ≤ 1
  done : S.done = names.length
  log : S.log.length = names.length
  stl : S.stands.length = names.length + 1
  deeds : ∃ ds, dV S = some ds ∧ ds.length = names.length
  st : ∃ st, S.stands[S.done]? = some st ∧ st.a.map (·.1) = names
theorem t8 {S : HallT} {names : List Str} {st : P2 (List (Str × BookT)) (List (Str × TableT))} (h : S.stands[S.done]? = some st) (e : st.a.map (·.1) = names) : dm S = some names := by
  unfold dm
  rw [c1 (g := lF), show lF S = some st from h]
  show ba (S := Unit) (b1 (fun r => some (Fl.rt r)) (b1 tE (some st.a))) = _
  rw [c1 (g := tE), show tE st.a = some names from congrArg some e]
  rfl
theorem BH {S : HallT} {z : Str} {b : BookT} {d : List (Str × BookT)} {t : List (Str × TableT)} (h : S.stands[S.done]? = some ⟨d ++ [(z, b)], t⟩) (hz : z ∉ d.map (·.1)) : fu S z = some b := by
  unfold fu
  rw [c1 (g := lF), show lF S = some ⟨d ++ [(z, b)], t⟩ from h]
  show ba (S := Unit) (b1 (fun r => some (Fl.rt r)) (b2 eJ (some (d ++ [(z, b)])) (some z))) = _
  rw [c2 (g := eJ)]
  have e : eJ (d ++ [(z, b)]) z = some b := by
    unfold eJ
    rw [c2 (g := x_), c2 (g := zP), show x_ z (d ++ [(z, b)]) = some false from by unfold x_; rw [qR hz]; rfl, show zP (d ++ [(z, b)]) z = some b from qR hz]
    rfl
  rw [e]
  rfl
theorem v9 {S : HallT} {names : List Str} {z : Str} {s3 : BL} (h : HOk S names) (hz : u9 z) (hb : Bz 5000 100 s3) : ba (core S names z s3) = some true := by
  unfold core
  by_cases hm : z ∈ names
  · rw [decide_eq_true hm, if_pos rfl]; rfl
  · obtain ⟨st, e1, e2⟩ := h.st
    have hd := h.done
    have hl := h.log
    have hsl := h.stl
    have h1 := h.ln
    have hla : st.a.length = names.length := by rw [← e2, List.length_map]
    rw [decide_eq_false hm, if_neg Bool.false_ne_true]
    show ba (S := Unit) (b1 _ (gc s3)) = _
    rw [BF (by have := hb.1; omega), c1, EB (by omega) (by omega) hb, c1]
    have sh := qK (h := S) (st := st) (n := z) (b := s3) e1 hz (by rw [e2]; exact hm) (by rw [e2]; exact h.nd) (by omega) (by omega) (by omega) (by omega) (show (5000 : Nat) ≤ 100000 by omega) (show (100 : Nat) ≤ 1000 by omega) hb
    rcases zO (b := s3) with ⟨x1, x2⟩ | ⟨e, x1, x2, x3⟩
    · rw [x1] at sh
      dsimp only at sh
      generalize hS : (⟨S.log.take S.done ++ [⟨[.s "shelve", .s z, .l s3]⟩], S.done + 1, S.stands.take (S.done + 1) ++ [⟨st.a ++ [(z, ⟨s3⟩)], st.b⟩]⟩ : HallT) = S' at sh
      have w : cv S z s3 = some (S', j6 s3) := by
        unfold cv
        rw [sh, x2]; rfl
      have sw : o1 cv S (some z) (some s3) (some (j6 s3)) = some (S', true) := by
        unfold o1
        rw [c3, w]
        show (ez (j6 s3) (j6 s3)).map _ = _
        rw [sR]; rfl
      have st' : S'.stands[S'.done]? = some ⟨st.a ++ [(z, ⟨s3⟩)], st.b⟩ := by
        rw [← hS]
        show (S.stands.take (S.done + 1) ++ [_])[S.done + 1]? = _
        rw [List.getElem?_append_right (by rw [List.length_take]; omega), List.length_take, show S.done + 1 - min (S.done + 1) S.stands.length = 0 by omega]
        rfl
      have gb := C9 x1
      have bk := t8 (names := names ++ [z]) st' (by rw [List.map_append, e2]; rfl)
      have bo := BH st' (by rw [e2]; exact hm)
      rw [sw]
      show ba (S := Unit) (ah (S1 := HallT) (b1 _ (some (S', !decide (s3 = s3)))) _) = _
      rw [decide_eq_true rfl, x2]
      show ba (S := Unit) (b1 (fun r => some (Fl.rt r)) (fG (b2 eqM (dm S') (b2 dw (some names) (aK [z]))) (b2 cW (fu S' z) (some s3)))) = _
      rw [bk, bo, cy (by show 1 ≤ 1000; omega), c2 (g := dw), hX (by show names.length + 1 ≤ _; omega), c2 (g := eqM), aM, c2 (g := cW), Cw gb.1 gb.2, decide_eq_true rfl, aN]
      rfl
    · rw [x1] at sh
      dsimp only at sh
      have w : cv S z s3 = some (S, j6 s3) := by
        unfold cv
        rw [sh]
        show (Cr e).map _ = _
        rw [x2]; rfl
      have sw : o1 cv S (some z) (some s3) (some (j6 s3)) = some (S, true) := by
        unfold o1
        rw [c3, w]
        show (ez (j6 s3) (j6 s3)).map _ = _
        rw [sR]; rfl
      obtain ⟨ds, d1, d2⟩ := h.deeds
      rw [sw]
      show ba (S := Unit) (ah (S1 := HallT) (b1 _ (some (S, !decide (s3 = s3)))) _) = _
      rw [decide_eq_true rfl]
      show ba (S := Unit) (ah (S1 := Unit) (if (!decide ((j6 s3).a = "")) = true then b1 (fun r => some (Fl.rt r)) (fG (b2 eqM (dm S) (some names)) (b2 eqM (b1 b7 (dV S)) (some ((names.length : Nat) : Int)))) else some (Fl.nx ())) _) = _
      rw [decide_eq_false x3, t8 e1 e2, d1, c2 (g := eqM), aM, c1 (g := b7), av, c2 (g := eqM), aM, d2, decide_eq_true rfl, decide_eq_true rfl, aN]
      rfl
theorem Aj (z : Str) : eV ⟨[.s "shelve", .s z, .l [["a"]]]⟩ = some ⟨[.s "shelve", .s z, .l [["a"]]]⟩ := by
  unfold eV
  rw [c1 (g := ji), show ji (⟨[.s "shelve", .s z, .l [["a"]]]⟩ : Tp Thing) = some [.s "shelve", .s z, .l [["a"]]] from rfl, c1 (a := ([.s "shelve", .s z, .l [["a"]]] : List Thing))]
  rw [gJ (me := fun x1 : Thing => a9 ((some x1).map yr) ((b1 df ((some x1).bind zD)).map Thing.l) (some x1)) (fun x => x) (by show 3 ≤ 100000; omega) fun x hx => ?_, List.map_id']
  · rfl
  · rcases List.mem_cons.mp hx with rfl | hx
    · rfl
    · rcases List.mem_cons.mp hx with rfl | hx
      · rfl
      · rw [List.mem_singleton] at hx
        subst hx
        show (b1 df (some [["a"]])).map Thing.l = _
        rw [c1 (g := df), vB (by decide)]; rfl
theorem tY {S : HallT} (n : Nat) (hl : S.log.length = n) (hd : S.done = n) (hn : n ≤ 100) (h : ∀ x ∈ S.log, eV x = some x) : dV S = some S.log := by
  unfold dV
  show ba (S := Unit) (b1 (fun r => some (Fl.rt r)) (b1 (lcM fun x1 => lcE (some true) (b1 eV (some x1))) (b3 cM (some S.log) ce (bN (some (S.done : Int)))))) = _
  rw [ao, am, c3, au, hd, c1]
  have e : iD S.log none (some (n : Int)) = S.log := by
    unfold iD
    rw [show HT.sIx S.log.length 0 none = 0 from rfl, show HT.sIx S.log.length S.log.length (some (n : Int)) = n by show (if (n : Int) < 0 then ((n : Int) + (S.log.length : Int)).toNat else min (n : Int).toNat S.log.length) = n; rw [if_neg (by omega)]; omega, List.drop_zero, Nat.sub_zero, ← hl, List.take_length]
  rw [e, gJ (me := fun x1 : Tp Thing => b1 eV (some x1)) (fun x => x) (by omega) fun x hx => (c1 (g := eV)).trans (h x hx), List.map_id']
  rfl
theorem yz : HOk jj [] := ⟨.nil, by decide, rfl, rfl, rfl, ⟨[], tY 0 rfl rfl (by omega) (fun x hx => by cases hx), rfl⟩, ⟨⟨[], []⟩, rfl, rfl⟩⟩
def qU (z : Str) : HallT := ⟨[⟨[.s "shelve", .s z, .l [["a"]]]⟩], 1, [⟨[], []⟩, ⟨[(z, ⟨[["a"]]⟩)], []⟩]⟩
theorem yx (z : Str) : HOk (qU z) [z] := ⟨by simp, by simp, rfl, rfl, rfl, ⟨[⟨[.s "shelve", .s z, .l [["a"]]]⟩], tY 1 rfl rfl (by omega) (fun x hx => by rw [show (qU z).log = [⟨[.s "shelve", .s z, .l [["a"]]]⟩] from rfl, List.mem_singleton] at hx; subst hx; exact Aj z), rfl⟩, ⟨⟨[(z, ⟨[["a"]]⟩)], []⟩, rfl, rfl⟩⟩
theorem yy {z : Str} (hz : u9 z) : bP jj z [["a"]] = some (.ok (qU z)) := by
  have hb : Bz 40 8 ([["a"]] : BL) := ⟨by decide, fun v hv => by
    rw [List.mem_singleton] at hv
    subst hv
    exact ⟨by decide, fun z hz => by rw [List.mem_singleton] at hz; subst hz; decide⟩⟩
  rw [qK (h := jj) (st := ⟨[], []⟩) (N := 40) (L := 8) rfl hz (by simp) .nil (by show 0 < 8; omega) (by decide) (by decide) (by decide) (by omega) (by omega) hb, show ot [["a"]] = .ok () from rfl]
  rfl
theorem vj {d : List Int} (hd : Nm 290 d) {s3 : BL} (hb : Bz 5000 100 s3) : ∃ b, ba (EO d s3) = some b ∧ b = true := by
  refine ⟨true, ?_, rfl⟩
  unfold EO
  have a0 := ph hd (Int.toNat 270)
  have a2 := ph hd (Int.toNat 272)
  obtain ⟨z0, e0, h0⟩ := vC a0.1 a0.2
  obtain ⟨z2, e2, h2⟩ := vC a2.1 a2.2
  have q0 := Int.emod_nonneg (gI d (Int.toNat 271)) (show (2 : Int) ≠ 0 by omega)
  have q1 := Int.emod_lt_of_pos (gI d (Int.toNat 271)) (show (0 : Int) < 2 by omega)
  rw [et hd (show (0 : Int) ≤ 270 by omega) (by omega), et hd (show (0 : Int) ≤ 271 by omega) (by omega), et hd (show (0 : Int) ≤ 272 by omega) (by omega), c1 (g := ef) (a := gI d (Int.toNat 270)), e0, c1 (g := ef) (a := gI d (Int.toNat 272)), e2, c2 (g := bJ), bY (show (0 : Int) < 2 by omega), c2 (g := ar), al, c1 (g := aK), cy (by show 1 ≤ 1000; omega)]
  rcases (show gI d (Int.toNat 271) % 2 = 0 ∨ gI d (Int.toNat 271) % 2 = 1 by omega) with e | e
  · rw [e]
    show ba (S := Unit) (core jj [] z2 s3) = _
    exact v9 yz h2 hb
  · rw [e]
    show ba (S := Unit) (ah (S1 := HallT) (cD (fun x5 s4 => pf bP s4 (some x5) (b1 aK (b2 ar (aK ["a"]) (some []))) fun v => some (Fl.nx v)) [z0] jj) fun s4 => b1 (fun z => core s4 [z0] z s3) (some z2)) = _
    have e1 : pf (S := HallT) (R := Bool) bP jj (some z0) (b1 aK (b2 ar (aK ["a"]) (some []))) (fun v => some (Fl.nx v)) = some (.nx (qU z0)) := by
      show (bP jj z0 [["a"]]).bind _ = _
      rw [yy h0]; rfl
    have e3 : cD (S := HallT) (R := Bool) (fun x5 s4 => pf bP s4 (some x5) (b1 aK (b2 ar (aK ["a"]) (some []))) fun v => some (Fl.nx v)) [z0] jj = some (.nx (qU z0)) := by
      show ah (pf bP jj (some z0) (b1 aK (b2 ar (aK ["a"]) (some []))) fun v => some (Fl.nx v)) _ = _
      rw [e1]; rfl
    rw [e3]
    show ba (S := Unit) (core (qU z0) [z0] z2 s3) = _
    exact v9 (yx z0) h2 hb
theorem ym (ns : List Int) (hn : ns.length ≤ 63) : vN ns = some true := by
  suffices h : ∃ b, vN ns = some b ∧ b = true by obtain ⟨b, e, rfl⟩ := h; exact e
  unfold vN
  obtain ⟨d, ed, hd⟩ := un (m := 290) hn (by omega)
  rw [show ((290 : Nat) : Int) = 290 from rfl] at ed
  have q0 := Int.emod_nonneg (gI d (Int.toNat 1)) (show (4 : Int) ≠ 0 by omega)
  have q1 := Int.emod_lt_of_pos (gI d (Int.toNat 1)) (show (0 : Int) < 4 by omega)
  simp only [c1, c2, c3, c4, c5, bQ, br, cnx, crt, bR, bq, bh, bp, bn, bS, bg, a6, aZ, aY, aX, aG, aw, az, aP, aL, aW, aQ, aM, aR, aV, ai, aN, bf, ay, aC, av, au, ap, aF, am, ao, ax, al, aA, aB, aU, b0, bZ, bC, bB, Bool.not_true, Bool.not_false, ed, et hd (show (0 : Int) ≤ 0 by omega) (by omega), et hd (show (0 : Int) ≤ 1 by omega) (by omega), et hd (show (0 : Int) ≤ 2 by omega) (by omega), bY (show (0 : Int) < 3 by omega), bY (show (0 : Int) < 4 by omega), bY (show (0 : Int) < 19 by omega)]
  rw [cy (xs := ([5, 12, 40] : List Int)) (by decide), fB (j := gI d (Int.toNat 1) % 4) (by omega) (by omega)]
  simp only [c1, c2, c3, c4, c5, bQ, br, cnx, crt, bR, bq, bh, bp, bn, bS, bg, a6, aZ, aY, aX, aG, aw, az, aP, aL, aW, aQ, aM, aR, aV, ai, aN, bf, ay, aC, av, au, ap, aF, am, ao, ax, al, aA, aB, aU, b0, bZ, bC, bB, Bool.not_true, Bool.not_false]
  obtain ⟨m, em, m1, m2⟩ := Fc (a := 5) (b := 12) (c := 40) (gI d 0)
  rw [show Int.toNat 0 = 0 from rfl, show ([5, 12, 40] : List Int) = [((5 : Nat) : Int), ((12 : Nat) : Int), ((40 : Nat) : Int)] from rfl, em]
  simp only [c1, c2, c3, c4, c5, bQ, br, cnx, crt, bR, bq, bh, bp, bn, bS, bg, a6, aZ, aY, aX, aG, aw, az, aP, aL, aW, aQ, aM, aR, aV, ai, aN, bf, ay, aC, av, au, ap, aF, am, ao, ax, al, aA, aB, aU, b0, bZ, bC, bB, Bool.not_true, Bool.not_false]
  rw [lf (n := 20) _ (by omega)]
  obtain ⟨b, eb, hb⟩ := u7 (m := m) (d := d.drop (20 : Int).toNat) (by omega) (by omega) ((hd.drop 20).mono (by omega))
  rw [eb]
  have hb0 : Bz 40 8 b := ⟨by have := hb.2.1; omega, fun v hv => ⟨(hb.2.2.1 v hv).2.1, fun z hz => by have := ((hb.2.2.1 v hv).2.2 z hz).2.1; omega⟩⟩
  have ne0 : b ≠ [] := List.length_pos_iff.mp hb.1
  simp only [c1, c2, c3, c4, c5, bQ, br, cnx, crt, bR, bq, bh, bp, bn, bS, bg, a6, aZ, aY, aX, aG, aw, az, aP, aL, aW, aQ, aM, aR, aV, ai, aN, bf, ay, aC, av, au, ap, aF, am, ao, ax, al, aA, aB, aU, b0, bZ, bC, bB, Bool.not_true, Bool.not_false]
  refine oB (fun i s => s ≠ [] ∧ Bz (50 * 3 ^ i) (8 + 9 * i) s) ⟨ne0, hb0.mono (by omega) (by omega)⟩ ?_ ?_
  · rintro i x s hi ⟨n1, hs⟩
    have hi' := List.getElem?_eq_some_iff.mp hi
    have hx : i < 3 ∧ x = (i : Int) := by
      obtain ⟨h1, h2⟩ := hi'
      rw [List.length_map, List.length_range] at h1
      refine ⟨by omega, ?_⟩
      rw [← h2]; simp
    obtain ⟨hi3, rfl⟩ := hx
    rw [iY (by omega) (by omega)]
    simp only [c1, c2, c3, c4, c5, bQ, br, cnx, crt, bR, bq, bh, bp, bn, bS, bg, a6, aZ, aY, aX, aG, aw, az, aP, aL, aW, aQ, aM, aR, aV, ai, aN, bf, ay, aC, av, au, ap, aF, am, ao, ax, al, aA, aB, aU, b0, bZ, bC, bB, Bool.not_true, Bool.not_false]
    rw [lf (n := 3 + 5 * (i : Int)) _ (by omega)]
    have p27 : 3 ^ i ≤ 27 := Nat.le_trans (Nat.pow_le_pow_right (by omega) (show i ≤ 3 by omega)) (by decide)
    have p1 : 1 ≤ 3 ^ i := Nat.one_le_pow _ _ (by omega)
    obtain ⟨w, ew, hw, nw⟩ := wl (by omega) (by omega) hs n1 (d := d.drop (3 + 5 * (i : Int)).toNat) ((hd.drop _).mono (by omega))
    rw [ew]
    refine ⟨w, rfl, nw, hw.mono ?_ (by omega)⟩
    rw [Nat.pow_succ]
    omega
  · rintro s ⟨n1, hs⟩
    have hl : ((List.range (gI d (Int.toNat 1) % 4).toNat).map fun n : Nat => (n : Int)).length ≤ 3 := by rw [List.length_map, List.length_range]; omega
    generalize ((List.range (gI d (Int.toNat 1) % 4).toNat).map fun n : Nat => (n : Int)).length = j at hl hs
    have p27 : 3 ^ j ≤ 27 := Nat.le_trans (Nat.pow_le_pow_right (by omega) hl) (by decide)
    by_cases h : gI d (Int.toNat 2) % 19 = 18
    · rw [decide_eq_true h, if_pos rfl]
      exact vj hd (s3 := []) ⟨by simp, fun v hv => by cases hv⟩
    · rw [decide_eq_false h, if_neg Bool.false_ne_true]
      exact vj hd (s3 := s) (hs.mono (by omega) (by omega))
end Kj

namespace Kj
open PySem L2
structure Txt (K : PySem.W.Frag) (mg : Str → Option Value) : Prop where
  b_all : mg "all" = none
  b_bool : mg "bool" = none
  b_enumerate : mg "enumerate" = none
  b_int : mg "int" = none
  b_isinstance : mg "isinstance" = none
  b_len : mg "len" = none
  b_list : mg "list" = none
  b_max : mg "max" = none
  b_min : mg "min" = none
  b_range : mg "range" = none
  b_str : mg "str" = none
  b_tuple : mg "tuple" = none
  b_zip : mg "zip" = none
  g_MOST_LETTERS_books : ∃ t, mg "MOST_LETTERS_books" = some (.int 3 t)
  g_MOST_LETTERS_hall : ∃ t, mg "MOST_LETTERS_hall" = some (.int 8 t)
  g_MOST_NAMES : ∃ t, mg "MOST_NAMES" = some (.int 8 t)
  g_MOST_SYLLABLES : ∃ t, mg "MOST_SYLLABLES" = some (.int 8 t)
  g_MOST_VERSES : ∃ t, mg "MOST_VERSES" = some (.int 40 t)
  c_Book : Cls K (d5 K)
  c_Hall : Cls K (b9 K)
  n_Book_lines : NoAttr K (d5 K) "lines"
  n_Hall_done : NoAttr K (b9 K) "done"
  n_Hall_log : NoAttr K (b9 K) "log"
  n_Hall_stands : NoAttr K (b9 K) "stands"
  e_BadBook : ExcT K mg "BadBook" (He.ga K "BadBook")
  g_Alike : mg "Alike" = some (.ref (He.ga K "Alike"))
  g_BadBook : mg "BadBook" = some (.ref (He.ga K "BadBook"))
  g_BadVerse : mg "BadVerse" = some (.ref (He.ga K "BadVerse"))
  g_SnatchError : mg "SnatchError" = some (.ref (He.ga K "SnatchError"))
  x_exm : yL K lxn lxc = true
  x_Alike : ExF K (He.ga K "Alike") ["one", "other"]
  x_BadVerse : ExF K (He.ga K "BadVerse") ["row"]
theorem dk : FnScope ["_law_script", "_law_many", "_law_row", "_law_seed", "_law_cell", "_law_rest", "_law_k"] ["_law_script", "_law_many"] (defScope fJ) := ⟨rfl, rfl, rfl, by decide +kernel, rfl, by decide +kernel, by decide +kernel⟩
theorem je : FnScope ["_law_found", "_law_due", "_law_one", "_law_other"] ["_law_found", "_law_due"] (defScope f7) := ⟨rfl, rfl, rfl, by decide +kernel, rfl, by decide +kernel, by decide +kernel⟩
theorem iK : FnScope ["_law_number", "_law_letters", "_law_k"] ["_law_number"] (defScope f6) := ⟨rfl, rfl, rfl, by decide +kernel, rfl, by decide +kernel, by decide +kernel⟩
theorem ko : FnScope ["_law_d", "_law_k"] ["_law_d"] (defScope gC) := ⟨rfl, rfl, rfl, by decide +kernel, rfl, by decide +kernel, by decide +kernel⟩
theorem l5 : FnScope ["_law_one", "_law_other", "_law_size"] ["_law_one", "_law_other"] (defScope gQ) := ⟨rfl, rfl, rfl, by decide +kernel, rfl, by decide +kernel, by decide +kernel⟩
theorem fz : FnScope ["_law_verses", "_law_pool_here", "_law_d", "_law_line", "_law_ahead", "_law_k"] ["_law_verses", "_law_pool_here", "_law_d"] (defScope fZ) := ⟨rfl, rfl, rfl, by decide +kernel, rfl, by decide +kernel, by decide +kernel⟩
theorem ir : FnScope ["_law_d", "_law_size", "_law_verses", "_law_k", "_law_at", "_law_line"] ["_law_d", "_law_size"] (defScope ib) := ⟨rfl, rfl, rfl, by decide +kernel, rfl, by decide +kernel, by decide +kernel⟩
theorem fW : FnScope ["_law_d", "_law_most", "_law_pool_here", "_law_verses", "_law_k", "_law_line", "_law_one"] ["_law_d", "_law_most"] (defScope gF) := ⟨rfl, rfl, rfl, by decide +kernel, rfl, by decide +kernel, by decide +kernel⟩
theorem kq : FnScope ["_law_rows", "_law_row"] ["_law_rows"] (defScope gE) := ⟨rfl, rfl, rfl, by decide +kernel, rfl, by decide +kernel, by decide +kernel⟩
theorem iV : FnScope ["text", "letter"] ["text"] (defScope eS) := ⟨rfl, rfl, rfl, by decide +kernel, rfl, by decide +kernel, by decide +kernel⟩
theorem ku : FnScope ["syllables", "text"] ["syllables"] (defScope gH) := ⟨rfl, rfl, rfl, by decide +kernel, rfl, by decide +kernel, by decide +kernel⟩
theorem wq : FnScope ["one", "other"] ["one", "other"] (defScope jB) := ⟨rfl, rfl, rfl, by decide +kernel, rfl, by decide +kernel, by decide +kernel⟩
theorem kw : FnScope ["self", "row"] ["self", "row"] (defScope dv) := ⟨rfl, rfl, rfl, by decide +kernel, rfl, by decide +kernel, by decide +kernel⟩
theorem l6 : FnScope ["self", "one", "other"] ["self", "one", "other"] (defScope d6) := ⟨rfl, rfl, rfl, by decide +kernel, rfl, by decide +kernel, by decide +kernel⟩
theorem fD : FnScope ["rows", "row", "syllables", "other", "one"] ["rows"] (defScope d9) := ⟨rfl, rfl, rfl, by decide +kernel, rfl, by decide +kernel, by decide +kernel⟩
theorem gA : FnScope ["self", "verses", "verse"] ["self", "verses"] (defScope c9) := ⟨rfl, rfl, rfl, by decide +kernel, rfl, by decide +kernel, by decide +kernel⟩
theorem rl : FnScope ["self"] ["self"] (defScope gT) := ⟨rfl, rfl, rfl, by decide +kernel, rfl, by decide +kernel, by decide +kernel⟩
theorem oY : FnScope ["book", "number"] ["book", "number"] (defScope fK) := ⟨rfl, rfl, rfl, by decide +kernel, rfl, by decide +kernel, by decide +kernel⟩
theorem qi : FnScope ["self", "number"] ["self", "number"] (defScope gi) := ⟨rfl, rfl, rfl, by decide +kernel, rfl, by decide +kernel, by decide +kernel⟩
theorem iW : FnScope ["self", "line"] ["self"] (defScope eU) := ⟨rfl, rfl, rfl, by decide +kernel, rfl, by decide +kernel, by decide +kernel⟩
theorem lH : FnScope ["text", "letter"] ["text"] (defScope ic) := ⟨rfl, rfl, rfl, by decide +kernel, rfl, by decide +kernel, by decide +kernel⟩
theorem rj : FnScope ["named", "name"] ["named", "name"] (defScope gR) := ⟨rfl, rfl, rfl, by decide +kernel, rfl, by decide +kernel, by decide +kernel⟩
theorem qg : FnScope ["shelf", "name"] ["shelf", "name"] (defScope gg) := ⟨rfl, rfl, rfl, by decide +kernel, rfl, by decide +kernel, by decide +kernel⟩
theorem jV : FnScope ["rows", "row"] ["rows"] (defScope fY) := ⟨rfl, rfl, rfl, by decide +kernel, rfl, by decide +kernel, by decide +kernel⟩
theorem km : FnScope ["deed", "thing"] ["deed"] (defScope gB) := ⟨rfl, rfl, rfl, by decide +kernel, rfl, by decide +kernel, by decide +kernel⟩
theorem sQ : FnScope ["hall"] ["hall"] (defScope ia) := ⟨rfl, rfl, rfl, by decide +kernel, rfl, by decide +kernel, by decide +kernel⟩
theorem zY : FnScope ["hall", "deed", "shelf", "tables"] ["hall", "deed", "shelf", "tables"] (defScope m_) := ⟨rfl, rfl, rfl, by decide +kernel, rfl, by decide +kernel, by decide +kernel⟩
theorem m9 : FnScope ["self"] ["self"] (defScope eF) := ⟨rfl, rfl, rfl, by decide +kernel, rfl, by decide +kernel, by decide +kernel⟩
theorem oZ : FnScope ["self", "name", "verses", "shelf", "tables", "book"] ["self", "name", "verses"] (defScope eT) := ⟨rfl, rfl, rfl, by decide +kernel, rfl, by decide +kernel, by decide +kernel⟩
theorem gf : FnScope ["self", "name", "verses", "shelf", "tables", "book"] ["self", "name", "verses"] (defScope gw) := oZ
theorem qh : FnScope ["self"] ["self"] (defScope gh) := ⟨rfl, rfl, rfl, by decide +kernel, rfl, by decide +kernel, by decide +kernel⟩
theorem jq : FnScope ["self", "deed"] ["self"] (defScope fA) := ⟨rfl, rfl, rfl, by decide +kernel, rfl, by decide +kernel, by decide +kernel⟩
theorem rk : FnScope ["self", "name"] ["self", "name"] (defScope gS) := ⟨rfl, rfl, rfl, by decide +kernel, rfl, by decide +kernel, by decide +kernel⟩
theorem h_ : FnScope ["_law_book_here", "_law_verses", "_law_verse_here"] ["_law_book_here", "_law_verses"] (defScope dN) := ⟨rfl, rfl, rfl, by decide +kernel, rfl, by decide +kernel, by decide +kernel⟩
theorem g7 : FnScope ["_law_line", "_law_text", "_law_sign"] ["_law_line"] (defScope eR) := ⟨rfl, rfl, rfl, by decide +kernel, rfl, by decide +kernel, by decide +kernel⟩
theorem gv : FnScope ["_law_verses", "_law_row", "_law_other", "_law_one"] ["_law_verses"] (defScope fg) := ⟨rfl, rfl, rfl, by decide +kernel, rfl, by decide +kernel, by decide +kernel⟩
theorem cR : FnScope ["_law_verses", "_law_d", "_law_at", "_law_line", "_law_here", "_law_odd", "_law_verse_here"] ["_law_verses", "_law_d"] (defScope dl) := ⟨rfl, rfl, rfl, by decide +kernel, rfl, by decide +kernel, by decide +kernel⟩
theorem jf : FnScope ["_law_number", "_law_letters", "_law_k"] ["_law_number"] (defScope gD) := ⟨rfl, rfl, rfl, by decide +kernel, rfl, by decide +kernel, by decide +kernel⟩
theorem dc : FnScope ["_law_hall", "_law_name_here", "_law_verses", "_law_why", "e"] ["_law_hall", "_law_name_here", "_law_verses"] (defScope eE) := ⟨rfl, rfl, rfl, by decide +kernel, rfl, by decide +kernel, by decide +kernel⟩
theorem iz : FnScope ["_law_script", "_law_numbers_here", "_law_verses", "_law_k", "_law_hall", "_law_names", "_law_name_here", "_law_handed", "_law_due"] ["_law_script"] (defScope sS) := ⟨rfl, rfl, rfl, by decide +kernel, rfl, by decide +kernel, by decide +kernel⟩
section
variable {P : Program} {w : World} {K : PySem.W.Frag} {mg : Str → Option Value} {base : Heap} {f : Addr} {fd : FuncData}
theorem o5 (F : FnP K "_law_numbers" "_law_numbers" fJ f fd) (T : Txt K mg) : FnOk P w K mg base CX0 1 f fd ["_law_script", "_law_many"] (spF (sp2 (aE K) (aE K) (aE K) fL)) := by
  refine d_ F dk (fun As R h => by obtain ⟨bU, ci, c, rfl, _⟩ := h; rfl) (fun cdv A outer s H E hr => ?_)
  refine ⟨_, (pss_cons (ps_set (i := 2) dk.nd rfl (by first | exact Or.inl rfl | exact Or.inr rfl) (pe_lst pa_nil))
    (pss_cons (ps_set (i := 3) dk.nd rfl (by first | exact Or.inl rfl | exact Or.inr rfl) pe_int)
    (pss_cons (ps_for PassesOwn.never rfl (f8 (K := K) rfl (pe_slice (cc (K := K) rfl) (pv 0) po_none (po_some pe_int))) (pg_name (i := 4) dk.nd rfl (by first | exact Or.inl rfl | exact Or.inr rfl)) (pss_cons (ps_set (i := 3) dk.nd rfl (by first | exact Or.inl rfl | exact Or.inr rfl) (pe_op op_mod (pe_op op_add (pe_op op_add (pe_op op_mul (pv 3) pe_int) (pe_op op_mod (pv 4) pe_int)) pe_int) pe_int))
    (pss_cons (ps_set (i := 5) dk.nd rfl (by first | exact Or.inl rfl | exact Or.inr rfl) (pe_op op_sub (pv 4) (pe_op op_pow pe_int pe_int)))
    (pss_cons (ps_if (pt_cmpR op_lt (pv 5) pe_int (nomark _)) (pss_cons (ps_expr (pe_bm PySem.F.plainAttrs_list PySem.F.slot_list_append PySem.F.type_list_append mt_append (pv 2) (pa_cons (pe_op op_mod (pv 4) pe_int) pa_nil)))
    pss_nil) pss_nil)
    (pss_cons (ps_for PassesOwn.never rfl (pi_range1 (by rfl) T.b_range (pa_cons pe_int pa_nil)) (pg_name (i := 6) dk.nd rfl (by first | exact Or.inl rfl | exact Or.inr rfl)) (pss_cons (ps_if (pt_cmpR op_gt (pv 5) pe_int (nomark _)) (pss_cons (ps_expr (pe_bm PySem.F.plainAttrs_list PySem.F.slot_list_append PySem.F.type_list_append mt_append (pv 2) (pa_cons (pe_op op_mod (pv 5) pe_int) pa_nil)))
    (pss_cons (ps_set (i := 5) dk.nd rfl (by first | exact Or.inl rfl | exact Or.inr rfl) (pe_op op_fdiv (pv 5) pe_int))
    pss_nil)) pss_nil)
    pss_nil))
    pss_nil)))))
    (pss_cons (ps_while PassesOwn.never (pt_cmpR op_lt (pe_callB (b_ (K := K) rfl) (by rfl) T.b_len (by decide +kernel) (pa_cons (pv 2) pa_nil)) (pv 1) (nomark _)) (pss_cons (ps_set (i := 3) dk.nd rfl (by first | exact Or.inl rfl | exact Or.inr rfl) (pe_op op_mod (pe_op op_add (pe_op op_add (pe_op op_add (pe_op op_mul (pv 3) (pv 3)) (pe_op op_mul pe_int (pv 3))) (pe_op op_mul pe_int (pe_callB (b_ (K := K) rfl) (by rfl) T.b_len (by decide +kernel) (pa_cons (pv 2) pa_nil)))) pe_int) pe_int))
    (pss_cons (ps_expr (pe_bm PySem.F.plainAttrs_list PySem.F.slot_list_append PySem.F.type_list_append mt_append (pv 2) (pa_cons (pe_op op_mod (pe_op op_fdiv (pv 3) pe_int) pe_int) pa_nil)))
    pss_nil)))
    (pss_cons (ps_ret (pe_slice (cc (K := K) rfl) (pv 2) po_none (po_some (pv 1)))) pss_nil))))), fun H0 As R hS => ?_⟩
  obtain ⟨bU, ci, c, rfl, h, rfl⟩ := hS
  exact du (B := fun (_ : Unit) => [.no, .no, .no, .no, .no, .no, .no]) (show DB ⟨C0.W, K⟩ H0 [sl false ((aE K) bU), sl false ((aE K) ci), .no, .no, .no, .no, .no] _ (aE K) _ _ from (u3 (α := Int) (i := 2) (fun bH => (cV (i := 3) (f := true) (Ax := (aE K)) aq (fun cZ => (il (vs := [4]) (B1 := fun (s1 : (List Int) × Int) => [sl false ((aE K) bU), sl false ((aE K) ci), .own (oE K s1.1), sl true ((aE K) s1.2), .no, .no, .no]) (s0 := (bH, cZ)) (gd (eX (ae (A := (aE K)) (f := false) (x := bU) rfl) dq (cU aq))) (.cons .same (.cons .same (.cons .same (.cons .same (.cons .drop (.cons .drop (.cons .drop .nil))))))) (fun x2 s1 => cL) (fun x2 s1 => (cV (i := 3) (f := true) (Ax := (aE K)) (cp (dW (dW (iC (bx (g := true) (ae (A := (aE K)) (f := true) (x := s1.2) rfl)) aq) (cp (bx (g := true) (ae (A := (aE K)) (f := true) (x := x2) rfl)) aq)) aq) aq) (fun cZ => (cV (i := 5) (f := true) (Ax := (aE K)) (DR (bx (g := true) (ae (A := (aE K)) (f := true) (x := x2) rfl)) (DU aq aq)) (fun eO => (eN (B1 := fun (s8 : (List Int)) => [sl false ((aE K) bU), sl false ((aE K) ci), .own (oE K s8), sl true ((aE K) cZ), sl true ((aE K) x2), sl true ((aE K) eO), .no]) (cS (pT (G := ltI) (g := fun i j => decide (i < j)) (bx (g := true) (ae (A := (aE K)) (f := true) (x := eO) rfl)) aq (fun _ _ => rfl))) (pW (i := 2) (xs := s1.1) rfl (cp (bx (g := true) (ae (A := (aE K)) (f := true) (x := x2) rfl)) aq) (fun bH => (cr (s := bH) (.cons .same (.cons .same (.cons .same (.cons .same (.cons .same (.cons .same (.cons .drop .nil)))))))))) (cr (s := s1.1) (.cons .same (.cons .same (.cons .same (.cons .same (.cons .same (.cons .same (.cons .drop .nil)))))))) (fun s8 => (il (vs := [6]) (B1 := fun (s9 : (List Int) × Int) => [sl false ((aE K) bU), sl false ((aE K) ci), .own (oE K s9.1), sl true ((aE K) cZ), sl true ((aE K) x2), sl true ((aE K) s9.2), .no]) (s0 := (s8, eO)) (fh aq) (.cons .same (.cons .same (.cons .same (.cons .same (.cons .same (.cons .same (.cons .drop .nil))))))) (fun x10 s9 => cL) (fun x10 s9 => (eN (B1 := fun (s12 : (List Int) × Int) => [sl false ((aE K) bU), sl false ((aE K) ci), .own (oE K s12.1), sl true ((aE K) cZ), sl true ((aE K) x2), sl true ((aE K) s12.2), sl true ((aE K) x10)]) (cS (pT (G := gtI) (g := fun i j => decide (j < i)) (bx (g := true) (ae (A := (aE K)) (f := true) (x := s9.2) rfl)) aq (fun _ _ => rfl))) (pW (i := 2) (xs := s9.1) rfl (cp (bx (g := true) (ae (A := (aE K)) (f := true) (x := s9.2) rfl)) aq) (fun bH => (cV (i := 5) (f := true) (Ax := (aE K)) (jw (bx (g := true) (ae (A := (aE K)) (f := true) (x := s9.2) rfl)) aq) (fun eO => (cr (s := (bH, eO)) (.cons .same (.cons .same (.cons .same (.cons .same (.cons .same (.cons .same (.cons .same .nil)))))))))))) (cr (s := (s9.1, s9.2)) (.cons .same (.cons .same (.cons .same (.cons .same (.cons .same (.cons .same (.cons .same .nil)))))))) (fun s12 => (cr (s := (s12.1, s12.2)) (.cons .same (.cons .same (.cons .same (.cons .same (.cons .same (.cons .same (.cons .drop .nil))))))))))) (fun s9 => (cr (s := (s9.1, cZ)) (.cons .same (.cons .same (.cons .same (.cons .same (.cons .drop (.cons .drop (.cons .drop .nil))))))))))))))))) (fun s1 => (zu (B1 := fun (s13 : (List Int) × Int) => [sl false ((aE K) bU), sl false ((aE K) ci), .own (oE K s13.1), sl true ((aE K) s13.2), .no, .no, .no]) (s0 := (s1.1, s1.2)) (.cons .same (.cons .same (.cons .same (.cons .same (.cons .drop (.cons .drop (.cons .drop .nil))))))) (fun s13 => (vS (j5 (K := K) (i := 2) (xs := s13.1) rfl) (cS (pT (G := ltI) (g := fun i j => decide (i < j)) (eq (ae (A := (aE K)) (f := true) (x := s13.1) rfl)) (bx (g := true) (ae (A := (aE K)) (f := false) (x := ci) rfl)) (fun _ _ => rfl))))) (fun s13 => (cV (i := 3) (f := true) (Ax := (aE K)) (uT (j5 (K := K) (i := 2) (xs := s13.1) rfl) (cp (dW (dW (dW (iC (bx (g := true) (ae (A := (aE K)) (f := true) (x := s13.2) rfl)) (bx (g := true) (ae (A := (aE K)) (f := true) (x := s13.2) rfl))) (iC aq (bx (g := true) (ae (A := (aE K)) (f := true) (x := s13.2) rfl)))) (iC aq (eq (ae (A := (aE K)) (f := true) (x := s13.1) rfl)))) aq) aq)) (fun cZ => (pW (i := 2) (xs := s13.1) rfl (cp (jw (bx (g := true) (ae (A := (aE K)) (f := true) (x := cZ) rfl)) aq) aq) (fun bH => (cr (s := (bH, cZ)) (.cons .same (.cons .same (.cons .same (.cons .same (.cons .drop (.cons .drop (.cons .drop .nil))))))))))))) (fun s13 => (u4 (j5 (K := K) (i := 2) (xs := s13.1) rfl) (ck (eX (ae (A := (aE K)) (f := true) (x := s13.1) rfl) dq (cU (bx (g := true) (ae (A := (aE K)) (f := false) (x := ci) rfl))))))))))))))) h
theorem nM (F : FnP K "_law_same" "_law_same" f7 f fd) (T : Txt K mg) (hg : mg "_law_same" = some (.ref f)) : ∀ n, FnOk P w K mg base CX0 n f fd ["_law_found", "_law_due"] (spF (jy K n))
  | 0 => AE fun As R ⟨_, _, _, _, _, z, _⟩ => nomatch z
  | n + 1 => by
    have D : cf P w K mg base "_law_same" n ["_law_found", "_law_due"] (spF (jy K n)) := fi (x := "_law_same") (qual := "_law_same") (st := f7) F hg (nM F T hg n) fun _ _ _ _ _ _ us hl => match us, hl with | [_, _], _ => rfl
    refine Db F je (fun As R h => by obtain ⟨d, e, rfl, _⟩ := h; rfl) (fun cdv A outer s H E hr As R hS => ?_)
    refine ⟨_, (pss_cons (ps_if (pt_cmp (pc_isN (pv 1)) rfl) (pss_cons (ps_ret (pe_cmp (pc_isN (pv 0)) rfl)) pss_nil) pss_nil)
    (pss_cons (ps_if (pt_val (pe_callB (u6 (K := K) rfl) (by rfl) T.b_isinstance (by decide +kernel) (pa_cons (pv 1) (pa_cons (pe_tup (pa_cons (pe_bltn (v := .ty "list") (by rfl) T.b_list (by decide +kernel) rfl) (pa_cons (pe_bltn (v := .ty "tuple") (by rfl) T.b_tuple (by decide +kernel) rfl) pa_nil))) pa_nil))))
      (pss_cons (ps_if (PW.pt (pw_or (pt_cmpR op_ne (pe_callB (fj (K := K) rfl) (by rfl) T.b_isinstance (by decide +kernel) (pa_cons (pv 0) (pa_cons (pe_bltn (v := .ty "list") (by rfl) T.b_list (by decide +kernel) rfl) pa_nil))) (pe_callB (fj (K := K) rfl) (by rfl) T.b_isinstance (by decide +kernel) (pa_cons (pv 1) (pa_cons (pe_bltn (v := .ty "list") (by rfl) T.b_list (by decide +kernel) rfl) pa_nil))) (nomark _)) (pw_or1 (pt_cmpR op_ne (pe_callB (fj (K := K) rfl) (by rfl) T.b_isinstance (by decide +kernel) (pa_cons (pv 0) (pa_cons (pe_bltn (v := .ty "tuple") (by rfl) T.b_tuple (by decide +kernel) rfl) pa_nil))) (pe_callB (fj (K := K) rfl) (by rfl) T.b_isinstance (by decide +kernel) (pa_cons (pv 1) (pa_cons (pe_bltn (v := .ty "tuple") (by rfl) T.b_tuple (by decide +kernel) rfl) pa_nil))) (nomark _))))) (pss_cons (ps_ret pe_bl) pss_nil) pss_nil)
      (pss_cons (ps_ret (pe_and (pe_cmpR op_eq (pe_callB (b_ (K := K) rfl) (by rfl) T.b_len (by decide +kernel) (pa_cons (pv 0) pa_nil)) (pe_callB (b_ (K := K) rfl) (by rfl) T.b_len (by decide +kernel) (pa_cons (pv 1) pa_nil)) (nomark _)) (pe_one (pe_callB (j4 (K := K) rfl rfl) (by rfl) T.b_all (by decide +kernel) (pa_cons (pe_lc (own := [("_law_one", 2), ("_law_other", 3)]) (g := (gTup K 2 (gCons (gName 2) (gCons (gName 3) gNil)))) (by rfl) je.nd (xR (K := K) rfl (by rfl) T.b_zip (pa_cons (pv 0) (pa_cons (pv 1) pa_nil))) (blkOk_by (own := [("_law_one", 2), ("_law_other", 3)]) (N := ["_law_found", "_law_due", "_law_one", "_law_other"]) (sc := defScope f7) (by decide +kernel)) (fun _ _ _ _ _ => (pg_tup rfl (pgs_cons (pg_name (i := 2) je.nd rfl (by first | exact Or.inl rfl | exact Or.inr rfl)) (pgs_cons (pg_name (i := 3) je.nd rfl (by first | exact Or.inl rfl | exact Or.inr rfl)) pgs_nil)))) (fun _ _ _ _ _ => pts_nil) (fun _ _ _ _ _ => (bT D hr (by rfl) (pa_cons (pv 2) (pa_cons (pv 3) pa_nil))))) pa_nil))))) pss_nil)) pss_nil)
    (pss_cons (ps_if (PW.pt (pw_or (pt_cmpR op_ne (pe_callB (fj (K := K) rfl) (by rfl) T.b_isinstance (by decide +kernel) (pa_cons (pv 0) (pa_cons (pe_bltn (v := .ty "bool") (by rfl) T.b_bool (by decide +kernel) rfl) pa_nil))) (pe_callB (fj (K := K) rfl) (by rfl) T.b_isinstance (by decide +kernel) (pa_cons (pv 1) (pa_cons (pe_bltn (v := .ty "bool") (by rfl) T.b_bool (by decide +kernel) rfl) pa_nil))) (nomark _)) (pw_or1 (pt_cmpR op_ne (pe_callB (fj (K := K) rfl) (by rfl) T.b_isinstance (by decide +kernel) (pa_cons (pv 0) (pa_cons (pe_bltn (v := .ty "str") (by rfl) T.b_str (by decide +kernel) rfl) pa_nil))) (pe_callB (fj (K := K) rfl) (by rfl) T.b_isinstance (by decide +kernel) (pa_cons (pv 1) (pa_cons (pe_bltn (v := .ty "str") (by rfl) T.b_str (by decide +kernel) rfl) pa_nil))) (nomark _))))) (pss_cons (ps_ret pe_bl) pss_nil) pss_nil)
    (pss_cons (ps_ret (pe_and (pe_cmpR op_eq (pe_callB (fj (K := K) rfl) (by rfl) T.b_isinstance (by decide +kernel) (pa_cons (pv 0) (pa_cons (pe_bltn (v := .ty "int") (by rfl) T.b_int (by decide +kernel) rfl) pa_nil))) (pe_callB (fj (K := K) rfl) (by rfl) T.b_isinstance (by decide +kernel) (pa_cons (pv 1) (pa_cons (pe_bltn (v := .ty "int") (by rfl) T.b_int (by decide +kernel) rfl) pa_nil))) (nomark _)) (pe_one (pe_cmpR op_eq (pv 0) (pv 1) (nomark _))))) pss_nil)))), fun H0 => ?_⟩
    obtain ⟨d, e, rfl, p1, p2, d1, d2, sm, rfl⟩ := hS
    exact zZ p1 p2 d1 d2 sm
theorem rC (F : FnP K "_law_sound" "_law_sound" f6 f fd) (T : Txt K mg) : FnOk P w K mg base CX0 1 f fd ["_law_number"] (spF (sp1 (aE K) (aE K) f_)) := by
  refine d_ F iK (fun As R h => by obtain ⟨bd, c, rfl, _⟩ := h; rfl) (fun cdv A outer s H E hr => ?_)
  refine ⟨_, (pss_cons (ps_set (i := 1) iK.nd rfl (by first | exact Or.inl rfl | exact Or.inr rfl) pe_str)
    (pss_cons (ps_ret (sT (K := K) rfl pe_str (pe_lc (own := [("_law_k", 2)]) (g := (gName 2)) (by rfl) iK.nd (pi_range1 (by rfl) T.b_range (pa_cons (pe_op op_add pe_int (pe_op op_mod (pv 0) pe_int)) pa_nil)) (blkOk_by (own := [("_law_k", 2)]) (N := ["_law_number", "_law_letters", "_law_k"]) (sc := defScope f6) (by decide +kernel)) (fun _ _ _ _ _ => (pg_name (i := 2) iK.nd rfl (by first | exact Or.inl rfl | exact Or.inr rfl))) (fun _ _ _ _ _ => pts_nil) (fun _ _ _ _ _ => (pe_ix ix_str (pv 1) (pe_op op_mod (pe_op op_add (pe_op op_fdiv (pv 0) pe_int) (pe_op op_mul (pv 2) (pe_op op_fdiv (pv 0) pe_int))) pe_int) (fun _ _ => rfl)))))) pss_nil)), fun H0 As R hS => ?_⟩
  obtain ⟨bd, c, rfl, h, rfl⟩ := hS
  exact du (B := fun (_ : Unit) => [.no, .no, .no]) (show DB ⟨C0.W, K⟩ H0 [sl false ((aE K) bd), .no, .no] _ (aE K) _ _ from (cV (i := 1) (f := true) (Ax := (aE K)) bE (fun eP => (ck (vY bE (iy (vs := [2]) (fh (dW aq (cp (bx (g := true) (ae (A := (aE K)) (f := false) (x := bd) rfl)) aq))) (fun x1 => cL) (fun x1 => eM) (fun x1 => (zc (bx (g := true) (ae (A := (aE K)) (f := true) (x := eP) rfl)) (cp (dW (jw (bx (g := true) (ae (A := (aE K)) (f := false) (x := bd) rfl)) aq) (iC (bx (g := true) (ae (A := (aE K)) (f := true) (x := x1) rfl)) (jw (bx (g := true) (ae (A := (aE K)) (f := false) (x := bd) rfl)) aq))) aq))))))))) h
theorem sZ (F : FnP K "_law_pool" "_law_pool" gC f fd) (T : Txt K mg)
    (D_law_sound : cf P w K mg base "_law_sound" 1 ["_law_number"] (spF (sp1 (aE K) (aE K) f_))) : FnOk P w K mg base CX0 2 f fd ["_law_d"] (spF (sp1 (aE K) (aE K) ii)) := by
  refine d_ F ko (fun As R h => by obtain ⟨af, c, rfl, _⟩ := h; rfl) (fun cdv A outer s H E hr => ?_)
  refine ⟨_, (pss_cons (ps_if (pt_cmpR op_eq (pe_op op_mod (pe_ix (bt (K := K) rfl) (pv 0) pe_int (fun _ _ => rfl)) pe_int) pe_int (nomark _)) (pss_cons (ps_ret (pe_lst (pa_cons pe_str (pa_cons pe_str (pa_cons pe_str (pa_cons pe_str (pa_cons pe_str (pa_cons pe_str pa_nil)))))))) pss_nil) pss_nil)
    (pss_cons (ps_if (pt_cmpR op_eq (pe_op op_mod (pe_ix (bt (K := K) rfl) (pv 0) pe_int (fun _ _ => rfl)) pe_int) pe_int (nomark _)) (pss_cons (ps_ret (pe_lst (pa_cons pe_str (pa_cons pe_str (pa_cons pe_str (pa_cons pe_str (pa_cons pe_str (pa_cons pe_str pa_nil)))))))) pss_nil) pss_nil)
    (pss_cons (ps_ret (pe_lc (own := [("_law_k", 1)]) (g := (gName 1)) (by rfl) ko.nd (pi_range2 (by rfl) T.b_range (pa_cons pe_int (pa_cons pe_int pa_nil))) (blkOk_by (own := [("_law_k", 1)]) (N := ["_law_d", "_law_k"]) (sc := defScope gC) (by decide +kernel)) (fun _ _ _ _ _ => (pg_name (i := 1) ko.nd rfl (by first | exact Or.inl rfl | exact Or.inr rfl))) (fun _ _ _ _ _ => pts_nil) (fun _ _ _ _ _ => (bT D_law_sound (hr.mono (by decide)) (by rfl) (pa_cons (pe_ix (bt (K := K) rfl) (pv 0) (pv 1) (fun _ _ => rfl)) pa_nil))))) pss_nil))), fun H0 As R hS => ?_⟩
  obtain ⟨af, c, rfl, h, rfl⟩ := hS
  exact du (B := fun (_ : Unit) => [.no, .no]) (show DB ⟨C0.W, K⟩ H0 [sl false ((aE K) af), .no] _ (aE K) _ _ from (eN (B1 := fun (s1 : Unit) => [sl false ((aE K) af), .no]) (cS (jv (cp (cE (ae (A := (aE K)) (f := false) (x := af) rfl) aq) aq) aq)) (ck (dP (f := true) (be bE (be bE (be bE (be bE (be bE (be bE (da (α := Str)))))))))) (cr (s := ()) (.cons .same (.cons .drop .nil))) (fun s1 => (eN (B1 := fun (s2 : Unit) => [sl false ((aE K) af), .no]) (cS (jv (cp (cE (ae (A := (aE K)) (f := false) (x := af) rfl) aq) aq) aq)) (ck (dP (f := true) (be bE (be bE (be bE (be bE (be bE (be bE (da (α := Str)))))))))) (cr (s := ()) (.cons .same (.cons .drop .nil))) (fun s2 => (ck (iy (vs := [1]) (yS aq aq) (fun x3 => cL) (fun x3 => eM) (fun x3 => (fF cO (cE (ae (A := (aE K)) (f := false) (x := af) rfl) (bx (g := true) (ae (A := (aE K)) (f := true) (x := x3) rfl)))))))))))) h
theorem rD (F : FnP K "_law_alike" "_law_alike" gQ f fd) (T : Txt K mg) : FnOk P w K mg base CX0 1 f fd ["_law_one", "_law_other"] (spF (sp2 (aE K) (aE K) (aE K) dY)) := by
  refine d_ F l5 (fun As R h => by obtain ⟨cX, cm, c, rfl, _⟩ := h; rfl) (fun cdv A outer s H E hr => ?_)
  refine ⟨_, (pss_cons (ps_set (i := 2) l5.nd rfl (by first | exact Or.inl rfl | exact Or.inr rfl) (pe_callB (call_min2 rfl) (by rfl) T.b_min (by decide +kernel) (pa_cons (pe_callB (b_ (K := K) rfl) (by rfl) T.b_len (by decide +kernel) (pa_cons (pv 0) pa_nil)) (pa_cons (pe_callB (b_ (K := K) rfl) (by rfl) T.b_len (by decide +kernel) (pa_cons (pv 1) pa_nil)) pa_nil))))
    (pss_cons (ps_ret (pe_cmpR (oy (K := K) rfl hr.units) (pe_slice (cc (K := K) rfl) (pv 0) po_none (po_some (pv 2))) (pe_slice (cc (K := K) rfl) (pv 1) po_none (po_some (pv 2))) (nomark _))) pss_nil)), fun H0 As R hS => ?_⟩
  obtain ⟨cX, cm, c, rfl, h, rfl⟩ := hS
  exact du (B := fun (_ : Unit) => [.no, .no, .no]) (show DB ⟨C0.W, K⟩ H0 [sl false ((aE K) cX), sl false ((aE K) cm), .no] _ (aE K) _ _ from (cV (i := 2) (f := true) (Ax := (aE K)) (DY (eq (ae (A := (aE K)) (f := false) (x := cX) rfl)) (eq (ae (A := (aE K)) (f := false) (x := cm) rfl))) (fun bc => (ck (sq (eX (ae (A := (aE K)) (f := false) (x := cX) rfl) dq (cU (bx (g := true) (ae (A := (aE K)) (f := true) (x := bc) rfl)))) (eX (ae (A := (aE K)) (f := false) (x := cm) rfl) dq (cU (bx (g := true) (ae (A := (aE K)) (f := true) (x := bc) rfl)))) (by decide)))))) h
theorem rB (F : FnP K "_law_verse" "_law_verse" fZ f fd) (T : Txt K mg) : FnOk P w K mg base CX0 1 f fd ["_law_verses", "_law_pool_here", "_law_d"] (spF (sp3 (aE K) (aE K) (aE K) (aE K) gU)) := by
  refine d_ F fz (fun As R h => by obtain ⟨aa, ch, af, c, rfl, _⟩ := h; rfl) (fun cdv A outer s H E hr => ?_)
  refine ⟨_, (pss_cons (ps_set (i := 3) fz.nd rfl (by first | exact Or.inl rfl | exact Or.inr rfl) (pe_lst pa_nil))
    (pss_cons (ps_if (PW.pt (pw_and (pt_cmpR (vy (K := K) rfl hr.units) (pv 0) (pe_lst pa_nil) (nomark _)) (pw_and1 (pt_cmpR op_gt (pe_op op_mod (pe_ix (bt (K := K) rfl) (pv 2) pe_int (fun _ _ => rfl)) pe_int) pe_int (nomark _))))) (pss_cons (ps_set (i := 4) fz.nd rfl (by first | exact Or.inl rfl | exact Or.inr rfl) (pe_ix (bt (K := K) rfl) (pv 0) (pe_op op_mod (pe_ix (bt (K := K) rfl) (pv 2) pe_int (fun _ _ => rfl)) (pe_callB (b_ (K := K) rfl) (by rfl) T.b_len (by decide +kernel) (pa_cons (pv 0) pa_nil))) (fun _ _ => rfl)))
    (pss_cons (ps_set (i := 3) fz.nd rfl (by first | exact Or.inl rfl | exact Or.inr rfl) (pe_slice (cc (K := K) rfl) (pv 4) po_none (po_some (pe_op op_mod (pe_op op_fdiv (pe_ix (bt (K := K) rfl) (pv 2) pe_int (fun _ _ => rfl)) pe_int) (pe_op op_add (pe_callB (b_ (K := K) rfl) (by rfl) T.b_len (by decide +kernel) (pa_cons (pv 4) pa_nil)) pe_int)))))
    pss_nil)) pss_nil)
    (pss_cons (ps_set (i := 3) fz.nd rfl (by first | exact Or.inl rfl | exact Or.inr rfl) (pe_op (dU (K := K) rfl) (pv 3) (pe_lc (own := [("_law_k", 5)]) (g := (gName 5)) (by rfl) fz.nd (pi_range1 (by rfl) T.b_range (pa_cons (pe_op op_add pe_int (pe_op op_mod (pe_ix (bt (K := K) rfl) (pv 2) pe_int (fun _ _ => rfl)) pe_int)) pa_nil)) (blkOk_by (own := [("_law_k", 5)]) (N := ["_law_verses", "_law_pool_here", "_law_d", "_law_line", "_law_ahead", "_law_k"]) (sc := defScope fZ) (by decide +kernel)) (fun _ _ _ _ _ => (pg_name (i := 5) fz.nd rfl (by first | exact Or.inl rfl | exact Or.inr rfl))) (fun _ _ _ _ _ => pts_nil) (fun _ _ _ _ _ => (pe_ix (bt (K := K) rfl) (pv 1) (pe_op op_mod (pe_ix (bt (K := K) rfl) (pv 2) (pe_op op_add pe_int (pv 5)) (fun _ _ => rfl)) (pe_callB (b_ (K := K) rfl) (by rfl) T.b_len (by decide +kernel) (pa_cons (pv 1) pa_nil))) (fun _ _ => rfl))))))
    (pss_cons (ps_ret (pe_slice (cc (K := K) rfl) (pv 3) po_none (po_some pe_int))) pss_nil)))), fun H0 As R hS => ?_⟩
  obtain ⟨aa, ch, af, c, rfl, h, rfl⟩ := hS
  exact du (B := fun (_ : Unit) => [.no, .no, .no, .no, .no, .no]) (show DB ⟨C0.W, K⟩ H0 [sl false ((aE K) aa), sl false ((aE K) ch), sl false ((aE K) af), .no, .no, .no] _ (aE K) _ _ from (cV (i := 3) (f := true) (Ax := (aE K)) (dP (f := true) (da (α := Str))) (fun a7 => (eN (B1 := fun (s1 : (List Str)) => [sl false ((aE K) aa), sl false ((aE K) ch), sl false ((aE K) af), sl true ((aE K) s1), .no, .no]) (A7 (cS (yZ (ae (A := (aE K)) (f := false) (x := aa) rfl) (dP (f := true) (da (α := (List Str)))) (by decide))) (cS (pT (G := gtI) (g := fun i j => decide (j < i)) (cp (cE (ae (A := (aE K)) (f := false) (x := af) rfl) aq) aq) aq (fun _ _ => rfl)))) (cV (i := 4) (f := false) (Ax := (aE K)) (j9 (ae (A := (aE K)) (f := false) (x := aa) rfl) (cp (cE (ae (A := (aE K)) (f := false) (x := af) rfl) aq) (eq (ae (A := (aE K)) (f := false) (x := aa) rfl)))) (fun iq => (cV (i := 3) (f := true) (Ax := (aE K)) (eX (ae (A := (aE K)) (f := false) (x := iq) rfl) dq (cU (cp (jw (cE (ae (A := (aE K)) (f := false) (x := af) rfl) aq) aq) (dW (eq (ae (A := (aE K)) (f := false) (x := iq) rfl)) aq)))) (fun a7 => (cr (s := a7) (.cons .same (.cons .same (.cons .same (.cons .same (.cons .drop (.cons .drop .nil))))))))))) (cr (s := a7) (.cons .same (.cons .same (.cons .same (.cons .same (.cons .drop (.cons .drop .nil))))))) (fun s1 => (cV (i := 3) (f := true) (Ax := (aE K)) (fC (ae (A := (aE K)) (f := true) (x := s1) rfl) (iy (vs := [5]) (fh (dW aq (cp (cE (ae (A := (aE K)) (f := false) (x := af) rfl) aq) aq))) (fun x2 => cL) (fun x2 => eM) (fun x2 => (cE (ae (A := (aE K)) (f := false) (x := ch) rfl) (cp (cE (ae (A := (aE K)) (f := false) (x := af) rfl) (dW aq (bx (g := true) (ae (A := (aE K)) (f := true) (x := x2) rfl)))) (eq (ae (A := (aE K)) (f := false) (x := ch) rfl))))))) (fun a7 => (ck (eX (ae (A := (aE K)) (f := true) (x := a7) rfl) dq (cU aq)))))))))) h
theorem sY (F : FnP K "_law_wide" "_law_wide" ib f fd) (T : Txt K mg) : FnOk P w K mg base CX0 1 f fd ["_law_d", "_law_size"] (spF (sp2 (aE K) (aE K) (aE K) gK)) := by
  refine d_ F ir (fun As R h => by obtain ⟨af, bc, c, rfl, _⟩ := h; rfl) (fun cdv A outer s H E hr => ?_)
  refine ⟨_, (pss_cons (ps_set (i := 2) ir.nd rfl (by first | exact Or.inl rfl | exact Or.inr rfl) (pe_lst pa_nil))
    (pss_cons (ps_for PassesOwn.never rfl (pi_range1 (by rfl) T.b_range (pa_cons (pv 1) pa_nil)) (pg_name (i := 3) ir.nd rfl (by first | exact Or.inl rfl | exact Or.inr rfl)) (pss_cons (ps_set (i := 4) ir.nd rfl (by first | exact Or.inl rfl | exact Or.inr rfl) (pe_op op_mod (pe_op op_add (pe_ix (bt (K := K) rfl) (pv 0) pe_int (fun _ _ => rfl)) (pe_op op_mul (pv 3) (pe_op op_add pe_int (pe_op op_mul pe_int (pe_op op_mod (pe_ix (bt (K := K) rfl) (pv 0) pe_int (fun _ _ => rfl)) pe_int))))) pe_int))
    (pss_cons (ps_set (i := 5) ir.nd rfl (by first | exact Or.inl rfl | exact Or.inr rfl) (pe_lst (pa_cons (pe_ix (bt (K := K) rfl) (pe_lst (pa_cons pe_str (pa_cons pe_str (pa_cons pe_str (pa_cons pe_str pa_nil))))) (pe_op op_fdiv (pv 4) pe_int) (fun _ _ => rfl)) (pa_cons (pe_ix (bt (K := K) rfl) (pe_lst (pa_cons pe_str (pa_cons pe_str (pa_cons pe_str (pa_cons pe_str pa_nil))))) (pe_op op_mod (pe_op op_fdiv (pv 4) pe_int) pe_int) (fun _ _ => rfl)) (pa_cons (pe_ix (bt (K := K) rfl) (pe_lst (pa_cons pe_str (pa_cons pe_str (pa_cons pe_str (pa_cons pe_str pa_nil))))) (pe_op op_mod (pv 4) pe_int) (fun _ _ => rfl)) pa_nil)))))
    (pss_cons (ps_expr (pe_bm PySem.F.plainAttrs_list PySem.F.slot_list_append PySem.F.type_list_append mt_append (pv 2) (pa_cons (pe_op (dU (K := K) rfl) (pv 5) (pe_slice (cc (K := K) rfl) (pe_lst (pa_cons pe_str (pa_cons pe_str (pa_cons pe_str (pa_cons pe_str (pa_cons pe_str pa_nil)))))) po_none (po_some (pe_op op_mod (pe_op op_add (pe_ix (bt (K := K) rfl) (pv 0) pe_int (fun _ _ => rfl)) (pe_op op_mul (pv 3) (pe_ix (bt (K := K) rfl) (pv 0) pe_int (fun _ _ => rfl)))) pe_int)))) pa_nil)))
    pss_nil))))
    (pss_cons (ps_ret (pv 2)) pss_nil))), fun H0 As R hS => ?_⟩
  obtain ⟨af, bc, c, rfl, h, rfl⟩ := hS
  exact du (B := fun (_ : Unit) => [.no, .no, .no, .no, .no, .no]) (show DB ⟨C0.W, K⟩ H0 [sl false ((aE K) af), sl false ((aE K) bc), .no, .no, .no, .no] _ (aE K) _ _ from (u3 (α := (List Str)) (i := 2) (fun aa => (il (vs := [3]) (B1 := fun (s1 : (List (List Str))) => [sl false ((aE K) af), sl false ((aE K) bc), .own (oE K s1), .no, .no, .no]) (s0 := aa) (fh (bx (g := true) (ae (A := (aE K)) (f := false) (x := bc) rfl))) (.cons .same (.cons .same (.cons .same (.cons .drop (.cons .drop (.cons .drop .nil)))))) (fun x2 s1 => cL) (fun x2 s1 => (cV (i := 4) (f := true) (Ax := (aE K)) (cp (dW (cE (ae (A := (aE K)) (f := false) (x := af) rfl) aq) (iC (bx (g := true) (ae (A := (aE K)) (f := true) (x := x2) rfl)) (dW aq (iC aq (cp (cE (ae (A := (aE K)) (f := false) (x := af) rfl) aq) aq))))) aq) (fun bw => (cV (i := 5) (f := true) (Ax := (aE K)) (dP (f := true) (be (cE (dP (f := true) (be bE (be bE (be bE (be bE (da (α := Str))))))) (jw (bx (g := true) (ae (A := (aE K)) (f := true) (x := bw) rfl)) aq)) (be (cE (dP (f := true) (be bE (be bE (be bE (be bE (da (α := Str))))))) (cp (jw (bx (g := true) (ae (A := (aE K)) (f := true) (x := bw) rfl)) aq) aq)) (be (cE (dP (f := true) (be bE (be bE (be bE (be bE (da (α := Str))))))) (cp (bx (g := true) (ae (A := (aE K)) (f := true) (x := bw) rfl)) aq)) (da (α := Str)))))) (fun a7 => (pW (i := 2) (xs := s1) rfl (fC (ae (A := (aE K)) (f := true) (x := a7) rfl) (eX (dP (f := true) (be bE (be bE (be bE (be bE (be bE (da (α := Str)))))))) dq (cU (cp (dW (cE (ae (A := (aE K)) (f := false) (x := af) rfl) aq) (iC (bx (g := true) (ae (A := (aE K)) (f := true) (x := x2) rfl)) (cE (ae (A := (aE K)) (f := false) (x := af) rfl) aq))) aq)))) (fun aa => (cr (s := aa) (.cons .same (.cons .same (.cons .same (.cons .drop (.cons .drop (.cons .drop .nil)))))))))))))) (fun s1 => (u4 (j5 (K := K) (i := 2) (xs := s1) rfl) (ck (ae (A := (aE K)) (f := true) (x := s1) rfl)))))))) h
theorem tm (F : FnP K "_law_book" "_law_book" gF f fd) (T : Txt K mg)
    (D_law_pool : cf P w K mg base "_law_pool" 2 ["_law_d"] (spF (sp1 (aE K) (aE K) ii)))
    (D_law_alike : cf P w K mg base "_law_alike" 1 ["_law_one", "_law_other"] (spF (sp2 (aE K) (aE K) (aE K) dY)))
    (D_law_verse : cf P w K mg base "_law_verse" 1 ["_law_verses", "_law_pool_here", "_law_d"] (spF (sp3 (aE K) (aE K) (aE K) (aE K) gU)))
    (D_law_wide : cf P w K mg base "_law_wide" 1 ["_law_d", "_law_size"] (spF (sp2 (aE K) (aE K) (aE K) gK))) : FnOk P w K mg base CX0 3 f fd ["_law_d", "_law_most"] (spF (sp2 (aE K) (aE K) (aE K) gL)) := by
  refine d_ F fW (fun As R h => by obtain ⟨af, c7, c, rfl, _⟩ := h; rfl) (fun cdv A outer s H E hr => ?_)
  refine ⟨_, (pss_cons (ps_if (pt_cmpR op_eq (pe_op op_mod (pe_op op_fdiv (pe_ix (bt (K := K) rfl) (pv 0) pe_int (fun _ _ => rfl)) pe_int) pe_int) pe_int (nomark _)) (pss_cons (ps_ret (bT D_law_wide (hr.mono (by decide)) (by rfl) (pa_cons (pe_slice (cc (K := K) rfl) (pv 0) (po_some pe_int) (po_some pe_int)) (pa_cons (pe_op op_add pe_int (pe_op op_mod (pe_ix (bt (K := K) rfl) (pv 0) pe_int (fun _ _ => rfl)) (pv 1))) pa_nil)))) pss_nil) pss_nil)
    (pss_cons (ps_set (i := 2) fW.nd rfl (by first | exact Or.inl rfl | exact Or.inr rfl) (pe_slice (cc (K := K) rfl) (bT D_law_pool (hr.mono (by decide)) (by rfl) (pa_cons (pe_slice (cc (K := K) rfl) (pv 0) (po_some pe_int) (po_some pe_int)) pa_nil)) po_none (po_some (pe_op op_add pe_int (pe_op op_mod (pe_ix (bt (K := K) rfl) (pv 0) pe_int (fun _ _ => rfl)) pe_int)))))
    (pss_cons (ps_set (i := 3) fW.nd rfl (by first | exact Or.inl rfl | exact Or.inr rfl) (pe_lst pa_nil))
    (pss_cons (ps_for PassesOwn.never rfl (pi_range1 (by rfl) T.b_range (pa_cons (pe_op op_add pe_int (pe_op op_mod (pe_ix (bt (K := K) rfl) (pv 0) pe_int (fun _ _ => rfl)) (pv 1))) pa_nil)) (pg_name (i := 4) fW.nd rfl (by first | exact Or.inl rfl | exact Or.inr rfl)) (pss_cons (ps_set (i := 5) fW.nd rfl (by first | exact Or.inl rfl | exact Or.inr rfl) (bT D_law_verse (hr.mono (by decide)) (by rfl) (pa_cons (pv 3) (pa_cons (pv 2) (pa_cons (pe_slice (cc (K := K) rfl) (pv 0) (po_some (pe_op op_add pe_int (pe_op op_mul pe_int (pv 4)))) (po_some (pe_op op_add pe_int (pe_op op_mul pe_int (pv 4))))) pa_nil)))))
    (pss_cons (ps_if (pt_val (pe_callB (j4 (K := K) rfl rfl) (by rfl) T.b_all (by decide +kernel) (pa_cons (pe_lc (own := [("_law_one", 6)]) (g := (gName 6)) (by rfl) fW.nd (f8 (K := K) rfl (pv 3)) (blkOk_by (own := [("_law_one", 6)]) (N := ["_law_d", "_law_most", "_law_pool_here", "_law_verses", "_law_k", "_law_line", "_law_one"]) (sc := defScope gF) (by decide +kernel)) (fun _ _ _ _ _ => (pg_name (i := 6) fW.nd rfl (by first | exact Or.inl rfl | exact Or.inr rfl))) (fun _ _ _ _ _ => pts_nil) (fun _ _ _ _ _ => (pe_not (bT D_law_alike (hr.mono (by decide)) (by rfl) (pa_cons (pv 5) (pa_cons (pv 6) pa_nil)))))) pa_nil))) (pss_cons (ps_expr (pe_bm PySem.F.plainAttrs_list PySem.F.slot_list_append PySem.F.type_list_append mt_append (pv 3) (pa_cons (pv 5) pa_nil)))
    pss_nil) pss_nil)
    pss_nil)))
    (pss_cons (ps_ret (pv 3)) pss_nil))))), fun H0 As R hS => ?_⟩
  obtain ⟨af, c7, c, rfl, h, rfl⟩ := hS
  exact du (B := fun (_ : Unit) => [.no, .no, .no, .no, .no, .no, .no]) (show DB ⟨C0.W, K⟩ H0 [sl false ((aE K) af), sl false ((aE K) c7), .no, .no, .no, .no, .no] _ (aE K) _ _ from (eN (B1 := fun (s1 : Unit) => [sl false ((aE K) af), sl false ((aE K) c7), .no, .no, .no, .no, .no]) (cS (jv (cp (jw (cE (ae (A := (aE K)) (f := false) (x := af) rfl) aq) aq) aq) aq)) (ck (gr cO (eX (ae (A := (aE K)) (f := false) (x := af) rfl) (cU aq) (cU aq)) (dW aq (cp (cE (ae (A := (aE K)) (f := false) (x := af) rfl) aq) (bx (g := true) (ae (A := (aE K)) (f := false) (x := c7) rfl)))))) (cr (s := ()) (.cons .same (.cons .same (.cons .drop (.cons .drop (.cons .drop (.cons .drop (.cons .drop .nil)))))))) (fun s1 => (cV (i := 2) (f := true) (Ax := (aE K)) (eX (fF cO (eX (ae (A := (aE K)) (f := false) (x := af) rfl) (cU aq) (cU aq))) dq (cU (dW aq (cp (cE (ae (A := (aE K)) (f := false) (x := af) rfl) aq) aq)))) (fun ch => (u3 (α := (List Str)) (i := 3) (fun aa => (il (vs := [4]) (B1 := fun (s2 : (List (List Str))) => [sl false ((aE K) af), sl false ((aE K) c7), sl true ((aE K) ch), .own (oE K s2), .no, .no, .no]) (s0 := aa) (fh (dW aq (cp (cE (ae (A := (aE K)) (f := false) (x := af) rfl) aq) (bx (g := true) (ae (A := (aE K)) (f := false) (x := c7) rfl))))) (.cons .same (.cons .same (.cons .same (.cons .same (.cons .drop (.cons .drop (.cons .drop .nil))))))) (fun x3 s2 => cL) (fun x3 s2 => (cV (i := 5) (f := true) (Ax := (aE K)) (zi (j5 (K := K) (i := 3) (xs := s2) rfl) (ae (A := (aE K)) (f := true) (x := s2) rfl) (ae (A := (aE K)) (f := true) (x := ch) rfl) (eX (ae (A := (aE K)) (f := false) (x := af) rfl) (cU (dW aq (iC aq (bx (g := true) (ae (A := (aE K)) (f := true) (x := x3) rfl))))) (cU (dW aq (iC aq (bx (g := true) (ae (A := (aE K)) (f := true) (x := x3) rfl))))))) (fun a7 => (eN (B1 := fun (s7 : (List (List Str))) => [sl false ((aE K) af), sl false ((aE K) c7), sl true ((aE K) ch), .own (oE K s7), sl true ((aE K) x3), sl true ((aE K) a7), .no]) (vS (j5 (K := K) (i := 3) (xs := s2) rfl) (jK (nG (iy (vs := [6]) (gd (ae (A := (aE K)) (f := true) (x := s2) rfl)) (fun x6 => cL) (fun x6 => eM) (fun x6 => (DV (gr cO (ae (A := (aE K)) (f := true) (x := a7) rfl) (ae (A := (aE K)) (f := true) (x := x6) rfl)))))))) (pW (i := 3) (xs := s2) rfl (ae (A := (aE K)) (f := true) (x := a7) rfl) (fun aa => (cr (s := aa) (.cons .same (.cons .same (.cons .same (.cons .same (.cons .same (.cons .same (.cons .drop .nil)))))))))) (cr (s := s2) (.cons .same (.cons .same (.cons .same (.cons .same (.cons .same (.cons .same (.cons .drop .nil)))))))) (fun s7 => (cr (s := s7) (.cons .same (.cons .same (.cons .same (.cons .same (.cons .drop (.cons .drop (.cons .drop .nil))))))))))))) (fun s2 => (u4 (j5 (K := K) (i := 3) (xs := s2) rfl) (ck (ae (A := (aE K)) (f := true) (x := s2) rfl)))))))))))) h
theorem tj (F : FnP K "_law_copy" "_law_copy" gE f fd) (T : Txt K mg) : FnOk P w K mg base CX0 1 f fd ["_law_rows"] (spF (sp1 (aE K) (aE K) gc)) := by
  refine d_ F kq (fun As R h => by obtain ⟨aj, c, rfl, _⟩ := h; rfl) (fun cdv A outer s H E hr => ?_)
  refine ⟨_, (pss_cons (ps_ret (pe_lc (own := [("_law_row", 1)]) (g := (gName 1)) (by rfl) kq.nd (f8 (K := K) rfl (pv 0)) (blkOk_by (own := [("_law_row", 1)]) (N := ["_law_rows", "_law_row"]) (sc := defScope gE) (by decide +kernel)) (fun _ _ _ _ _ => (pg_name (i := 1) kq.nd rfl (by first | exact Or.inl rfl | exact Or.inr rfl))) (fun _ _ _ _ _ => pts_nil) (fun _ _ _ _ _ => (pe_callTy (jb (K := K) rfl) (by rfl) T.b_list (by decide +kernel) (pa_cons (pv 1) pa_nil))))) pss_nil), fun H0 As R hS => ?_⟩
  obtain ⟨aj, c, rfl, h, rfl⟩ := hS
  exact du (B := fun (_ : Unit) => [.no, .no]) (show DB ⟨C0.W, K⟩ H0 [sl false ((aE K) aj), .no] _ (aE K) _ _ from (ck (iy (vs := [1]) (gd (ae (A := (aE K)) (f := false) (x := aj) rfl)) (fun x1 => cL) (fun x1 => eM) (fun x1 => (kO (ae (A := (aE K)) (f := false) (x := x1) rfl)))))) h
theorem o7 (F : FnP K "is_syllable" "is_syllable" eS f fd) (T : Txt K mg) : FnOk P w K mg base CX0 1 f fd ["text"] (spF (sp1 (aE K) (aE K) fN)) := by
  refine d_ F iV (fun As R h => by obtain ⟨gz, c, rfl, _⟩ := h; rfl) (fun cdv A outer s H E hr => ?_)
  refine ⟨_, (pss_cons (ps_ret (pe_and (pe_chain op_le op_le pe_int (pe_callB (b_ (K := K) rfl) (by rfl) T.b_len (by decide +kernel) (pa_cons (pv 0) pa_nil)) (kz (by rfl) T.g_MOST_LETTERS_books)) (pe_one (pe_callB (j4 (K := K) rfl rfl) (by rfl) T.b_all (by decide +kernel) (pa_cons (pe_lc (own := [("letter", 1)]) (g := (gName 1)) (by rfl) iV.nd (pi_str (pv 0)) (blkOk_by (own := [("letter", 1)]) (N := ["text", "letter"]) (sc := defScope eS) (by decide +kernel)) (fun _ _ _ _ _ => (pg_name (i := 1) iV.nd rfl (by first | exact Or.inl rfl | exact Or.inr rfl))) (fun _ _ _ _ _ => pts_nil) (fun _ _ _ _ _ => (pe_chain op_le_str op_le_str pe_str (pv 1) pe_str))) pa_nil))))) pss_nil), fun H0 As R hS => ?_⟩
  obtain ⟨gz, c, rfl, h, rfl⟩ := hS
  exact du (B := fun (_ : Unit) => [.no, .no]) (show DB ⟨C0.W, K⟩ H0 [sl false ((aE K) gz), .no] _ (aE K) _ _ from (ck (pU (kP (G := leI) (G' := leI) (g := fun i j => decide (i ≤ j)) (g' := fun i j => decide (i ≤ j)) aq (sk (bx (g := true) (ae (A := (aE K)) (f := false) (x := gz) rfl))) (aq (i := 3)) (fun _ _ => rfl) (fun _ _ => rfl)) (nG (iy (vs := [1]) (sb (bx (g := true) (ae (A := (aE K)) (f := false) (x := gz) rfl))) (fun x1 => cL) (fun x1 => eM) (fun x1 => (zh bE (bx (g := true) (ae (A := (aE K)) (f := true) (x := x1) rfl)) bE))))))) h
theorem tn (F : FnP K "is_verse" "is_verse" gH f fd) (T : Txt K mg)
    (D_is_syllable : cf P w K mg base "is_syllable" 1 ["text"] (spF (sp1 (aE K) (aE K) fN))) : FnOk P w K mg base CX0 2 f fd ["syllables"] (spF (sp1 (aE K) (aE K) gM)) := by
  refine d_ F ku (fun As R h => by obtain ⟨eI, c, rfl, _⟩ := h; rfl) (fun cdv A outer s H E hr => ?_)
  refine ⟨_, (pss_cons (ps_ret (pe_and (pe_chain op_le op_le pe_int (pe_callB (b_ (K := K) rfl) (by rfl) T.b_len (by decide +kernel) (pa_cons (pv 0) pa_nil)) (kz (by rfl) T.g_MOST_SYLLABLES)) (pe_one (pe_callB (j4 (K := K) rfl rfl) (by rfl) T.b_all (by decide +kernel) (pa_cons (pe_lc (own := [("text", 1)]) (g := (gName 1)) (by rfl) ku.nd (f8 (K := K) rfl (pv 0)) (blkOk_by (own := [("text", 1)]) (N := ["syllables", "text"]) (sc := defScope gH) (by decide +kernel)) (fun _ _ _ _ _ => (pg_name (i := 1) ku.nd rfl (by first | exact Or.inl rfl | exact Or.inr rfl))) (fun _ _ _ _ _ => pts_nil) (fun _ _ _ _ _ => (bT D_is_syllable (hr.mono (by decide)) (by rfl) (pa_cons (pv 1) pa_nil)))) pa_nil))))) pss_nil), fun H0 As R hS => ?_⟩
  obtain ⟨eI, c, rfl, h, rfl⟩ := hS
  exact du (B := fun (_ : Unit) => [.no, .no]) (show DB ⟨C0.W, K⟩ H0 [sl false ((aE K) eI), .no] _ (aE K) _ _ from (ck (pU (kP (G := leI) (G' := leI) (g := fun i j => decide (i ≤ j)) (g' := fun i j => decide (i ≤ j)) aq (eq (ae (A := (aE K)) (f := false) (x := eI) rfl)) (aq (i := 8)) (fun _ _ => rfl) (fun _ _ => rfl)) (nG (iy (vs := [1]) (gd (ae (A := (aE K)) (f := false) (x := eI) rfl)) (fun x1 => cL) (fun x1 => eM) (fun x1 => (fF cO (bx (g := true) (ae (A := (aE K)) (f := false) (x := x1) rfl))))))))) h
theorem wH (F : FnP K "begins" "begins" jB f fd) (T : Txt K mg) : FnOk P w K mg base CX0 1 f fd ["one", "other"] (spF (sp2 (aE K) (aE K) (aE K) eK)) := by
  refine d_ F wq (fun As R h => by obtain ⟨fm, bF, c, rfl, _⟩ := h; rfl) (fun cdv A outer s H E hr => ?_)
  refine ⟨_, (pss_cons (ps_ret (pe_cmpR (oy (K := K) rfl hr.units) (pe_slice (cc (K := K) rfl) (pv 1) po_none (po_some (pe_callB (b_ (K := K) rfl) (by rfl) T.b_len (by decide +kernel) (pa_cons (pv 0) pa_nil)))) (pv 0) (nomark _))) pss_nil), fun H0 As R hS => ?_⟩
  obtain ⟨fm, bF, c, rfl, h, rfl⟩ := hS
  exact du (B := fun (_ : Unit) => [.no, .no]) (show DB ⟨C0.W, K⟩ H0 [sl false ((aE K) fm), sl false ((aE K) bF)] _ (aE K) _ _ from (ck (sq (eX (ae (A := (aE K)) (f := false) (x := bF) rfl) dq (cU (eq (ae (A := (aE K)) (f := false) (x := fm) rfl)))) (ae (A := (aE K)) (f := false) (x := fm) rfl) (by decide)))) h
theorem kA (F : FnP K "__init__" "BadVerse.__init__" dv f fd) (T : Txt K mg) : FnOk P w K mg base CX0 1 f fd ["self", "row"] (xE (He.ga K "BadVerse") "row") :=
  AH F kw T.x_BadVerse (by simp) (fun cdv A outer s H E => (pss_cons (ps_ost (pv 0) (pv 1)) pss_nil))
theorem l_ (F : FnP K "__init__" "Alike.__init__" d6 f fd) (T : Txt K mg) : FnOk P w K mg base CX0 1 f fd ["self", "one", "other"] (xD (He.ga K "Alike") "one" "other") :=
  AG F l6 T.x_Alike (by simp) (by simp) (fun cdv A outer s H E => (pss_cons (ps_ost (pv 0) (pv 1)) (pss_cons (ps_ost (pv 0) (pv 2)) pss_nil)))
theorem n8 (F : FnP K "check_rows" "check_rows" d9 f fd) (T : Txt K mg)
    (D_is_verse : cf P w K mg base "is_verse" 2 ["syllables"] (spF (sp1 (aE K) (aE K) gM)))
    (D_begins : cf P w K mg base "begins" 1 ["one", "other"] (spF (sp2 (aE K) (aE K) (aE K) eK)))
    (D_BadVerse___init__ : w9 P w K mg base "BadVerse" (He.ga K "BadVerse") 1 ["self", "row"] (xE (He.ga K "BadVerse") "row"))
    (D_Alike___init__ : w9 P w K mg base "Alike" (He.ga K "Alike") 1 ["self", "one", "other"] (xD (He.ga K "Alike") "one" "other")) : FnOk P w K mg base (L2.CX P w) 3 f fd ["rows"] (spX (sx1 K (aE K) (aE K) eh)) := by
  refine Da F fD (fun As O h => by obtain ⟨cj, o, rfl, _⟩ := h; rfl) (fun cdv A outer s H E hr => ?_)
  have tk := m5 (P := P) (w := w) (K := K) (mg := mg) (base := base) (N := ["rows", "row", "syllables", "other", "one"]) (qual := "check_rows") (scope := defScope d9) (f := f) (cd := cdv) (A := A) (outer := outer) (s := s) (H := H) (E := E)
  refine ⟨_, (pss_cons (ps_if (pt_not (pt_chain op_le op_le pe_int (pe_callB (b_ (K := K) rfl) (by rfl) T.b_len (by decide +kernel) (pa_cons (pv 0) pa_nil)) (kz (by rfl) T.g_MOST_VERSES))) (pss_cons (wy T.e_BadBook rfl tk (by rfl)) pss_nil) pss_nil)
    (pss_cons (ps_for lJ rfl (xS (K := K) rfl (by rfl) T.b_enumerate (pa_cons (pv 0) pa_nil)) (pg_tup rfl (pgs_cons (pg_name (i := 1) fD.nd rfl (by first | exact Or.inl rfl | exact Or.inr rfl)) (pgs_cons (pg_name (i := 2) fD.nd rfl (by first | exact Or.inl rfl | exact Or.inr rfl)) pgs_nil))) (pss_cons (ps_if (pt_not (pt_val (bT D_is_verse (hr.mono (by decide)) (by rfl) (pa_cons (pv 2) pa_nil)))) (pss_cons (qM D_BadVerse___init__ (hr.mono (by decide)) rfl tk (by rfl) (pa_cons (pv 1) pa_nil)) pss_nil) pss_nil)
    pss_nil))
    (pss_cons (ps_for lJ rfl (pi_range1 (by rfl) T.b_range (pa_cons (pe_callB (b_ (K := K) rfl) (by rfl) T.b_len (by decide +kernel) (pa_cons (pv 0) pa_nil)) pa_nil)) (pg_name (i := 3) fD.nd rfl (by first | exact Or.inl rfl | exact Or.inr rfl)) (pss_cons (ps_for lJ rfl (pi_range1 (by rfl) T.b_range (pa_cons (pv 3) pa_nil)) (pg_name (i := 4) fD.nd rfl (by first | exact Or.inl rfl | exact Or.inr rfl)) (pss_cons (ps_if (PW.pt (pw_or (pt_val (bT D_begins (hr.mono (by decide)) (by rfl) (pa_cons (pe_ix (bt (K := K) rfl) (pv 0) (pv 4) (fun _ _ => rfl)) (pa_cons (pe_ix (bt (K := K) rfl) (pv 0) (pv 3) (fun _ _ => rfl)) pa_nil)))) (pw_or1 (pt_val (bT D_begins (hr.mono (by decide)) (by rfl) (pa_cons (pe_ix (bt (K := K) rfl) (pv 0) (pv 3) (fun _ _ => rfl)) (pa_cons (pe_ix (bt (K := K) rfl) (pv 0) (pv 4) (fun _ _ => rfl)) pa_nil))))))) (pss_cons (qM D_Alike___init__ (hr.mono (by decide)) rfl tk (by rfl) (pa_cons (pv 4) (pa_cons (pv 3) pa_nil))) pss_nil) pss_nil)
    pss_nil))
    pss_nil))
    pss_nil))), fun H0 As O hS => ?_⟩
  obtain ⟨cj, o, rfl, h, rfl⟩ := hS
  skip
  exact zx (B := fun (_ : Unit) => [.no, .no, .no, .no, .no]) (show DB ⟨fun cls d _ H => E cls d H, K⟩ H0 [sl false ((aE K) cj), .no, .no, .no, .no] _ (aE K) _ _ from (eN (B1 := fun (s1 : Unit) => [sl false ((aE K) cj), .no, .no, .no, .no]) (hP (cS (kP (G := leI) (G' := leI) (g := fun i j => decide (i ≤ j)) (g' := fun i j => decide (i ≤ j)) aq (eq (ae (A := (aE K)) (f := false) (x := cj) rfl)) (aq (i := 40)) (fun _ _ => rfl) (fun _ _ => rfl)))) zw (cr (s := ()) (.cons .same (.cons .drop (.cons .drop (.cons .drop (.cons .drop .nil)))))) (fun s1 => (il (vs := [1, 2]) (B1 := fun (s2 : Unit) => [sl false ((aE K) cj), .no, .no, .no, .no]) (s0 := ()) (yT (ae (A := (aE K)) (f := false) (x := cj) rfl)) (.cons .same (.cons .drop (.cons .drop (.cons .drop (.cons .drop .nil))))) (fun x3 s2 => (FQ (tX Cj (tX Cj Bl)))) (fun x3 s2 => (eN (B1 := fun (s5 : Unit) => [sl false ((aE K) cj), sl false ((aE K) x3.a), sl false ((aE K) x3.b), .no, .no]) (hP (jK (fF cO (ae (A := (aE K)) (f := false) (x := x3.b) rfl)))) (u1 (x := "BadVerse") (fl := "row") (bx (g := true) (ae (A := (aE K)) (f := false) (x := x3.a) rfl))) (cr (s := ()) (.cons .same (.cons .same (.cons .same (.cons .drop (.cons .drop .nil)))))) (fun s5 => (cr (s := ()) (.cons .same (.cons .drop (.cons .drop (.cons .drop (.cons .drop .nil))))))))) (fun s2 => (il (vs := [3]) (B1 := fun (s6 : Unit) => [sl false ((aE K) cj), .no, .no, .no, .no]) (s0 := ()) (fh (eq (ae (A := (aE K)) (f := false) (x := cj) rfl))) (.cons .same (.cons .drop (.cons .drop (.cons .drop (.cons .drop .nil))))) (fun x7 s6 => cL) (fun x7 s6 => (il (vs := [4]) (B1 := fun (s12 : Unit) => [sl false ((aE K) cj), .no, .no, sl true ((aE K) x7), .no]) (s0 := ()) (fh (bx (g := true) (ae (A := (aE K)) (f := true) (x := x7) rfl))) (.cons .same (.cons .drop (.cons .drop (.cons .same (.cons .drop .nil))))) (fun x13 s12 => cL) (fun x13 s12 => (eN (B1 := fun (s15 : Unit) => [sl false ((aE K) cj), .no, .no, sl true ((aE K) x7), sl true ((aE K) x13)]) (uL (jK (gr cO (j9 (ae (A := (aE K)) (f := false) (x := cj) rfl) (bx (g := true) (ae (A := (aE K)) (f := true) (x := x13) rfl))) (j9 (ae (A := (aE K)) (f := false) (x := cj) rfl) (bx (g := true) (ae (A := (aE K)) (f := true) (x := x7) rfl))))) (jK (gr cO (j9 (ae (A := (aE K)) (f := false) (x := cj) rfl) (bx (g := true) (ae (A := (aE K)) (f := true) (x := x7) rfl))) (j9 (ae (A := (aE K)) (f := false) (x := cj) rfl) (bx (g := true) (ae (A := (aE K)) (f := true) (x := x13) rfl)))))) (u0 (x := "Alike") (fl := "one") (gl := "other") (bx (g := true) (ae (A := (aE K)) (f := true) (x := x13) rfl)) (bx (g := true) (ae (A := (aE K)) (f := true) (x := x7) rfl))) (cr (s := ()) (.cons .same (.cons .drop (.cons .drop (.cons .same (.cons .same .nil)))))) (fun s15 => (cr (s := ()) (.cons .same (.cons .drop (.cons .drop (.cons .same (.cons .drop .nil))))))))) (fun s12 => (cr (s := ()) (.cons .same (.cons .drop (.cons .drop (.cons .drop (.cons .drop .nil))))))))) (fun s6 => (cr (s := ()) (.cons .drop (.cons .drop (.cons .drop (.cons .drop (.cons .drop .nil))))))))))))) h
theorem lL (F : FnP K "__init__" "Book.__init__" c9 f fd) (T : Txt K mg)
    (D_check_rows_x : nJ P w K mg base "check_rows" 3 ["rows"] (spX (sx1 K (aE K) (aE K) eh))) : FnOk P w K mg base (L2.CX P w) 4 f fd ["self", "verses"] (qf (ui K (aE K) (hZ K) c_) (d5 K)) := by
  refine wO F gA (fun As O h => by obtain ⟨bL, o, rfl, _⟩ := h; rfl) (fun cdv A outer s H E hr => ?_)
  have tk := m5 (P := P) (w := w) (K := K) (mg := mg) (base := base) (N := ["self", "verses", "verse"]) (qual := "Book.__init__") (scope := defScope c9) (f := f) (cd := cdv) (A := A) (outer := outer) (s := s) (H := H) (E := E)
  refine ⟨_, (pss_cons (ps_expr (xU D_check_rows_x (hr.mono (by decide)) tk (by rfl) (pa_cons (pv 1) pa_nil)))
    (pss_cons (ps_fld (pv 0) (pe_lc (own := [("verse", 2)]) (g := (gName 2)) (by rfl) gA.nd (f8 (K := K) rfl (pv 1)) (blkOk_by (own := [("verse", 2)]) (N := ["self", "verses", "verse"]) (sc := defScope c9) (by decide +kernel)) (fun _ _ _ _ _ => (pg_name (i := 2) gA.nd rfl (by first | exact Or.inl rfl | exact Or.inr rfl))) (fun _ _ _ _ _ => pts_nil) (fun _ _ _ _ _ => (pe_callTy (jb (K := K) rfl) (by rfl) T.b_list (by decide +kernel) (pa_cons (pv 2) pa_nil)))) rfl) pss_nil)), fun H0 xo dx As O hS => ?_⟩
  obtain ⟨bL, c, rfl, h, rfl⟩ := hS
  exact zy (O := hZ K) (rest := [.no, .no]) (show DB ⟨fun cls d _ H => E cls d H, K⟩ H0 [.own (qo xo (d5 K) dx []), sl false ((aE K) bL), .no] _ (aE K) _ _ from (zt (yR cO (ae (A := (aE K)) (f := false) (x := bL) rfl)) (BD (i := 0) (Bf := (aE K)) rfl (iy (vs := [2]) (gd (ae (A := (aE K)) (f := false) (x := bL) rfl)) (fun x1 => cL) (fun x1 => eM) (fun x1 => (kO (ae (A := (aE K)) (f := false) (x := x1) rfl)))) T.c_Book T.n_Book_lines (fun y0 => (cr (B := fun (s : BookT) => .own (qo xo (d5 K) dx (hZ K s)) :: [.no, .no]) (.cons .same (.cons .drop (.cons .drop .nil)))))))) h
theorem rG (F : FnP K "many" "Book.many" gT f fd) (T : Txt K mg) : FnOk P w K mg base CX0 1 f fd ["self"] (spF (sp1 (bV K) (aE K) dh)) := by
  refine d_ F rl (fun As R h => by obtain ⟨ac, c, rfl, _⟩ := h; rfl) (fun cdv A outer s H E hr => ?_)
  refine ⟨_, (pss_cons (ps_ret (pe_callB (b_ (K := K) rfl) (by rfl) T.b_len (by decide +kernel) (pa_cons (gj (K := K) rfl (pv 0) rfl) pa_nil))) pss_nil), fun H0 As R hS => ?_⟩
  obtain ⟨ac, c, rfl, h, rfl⟩ := hS
  exact du (B := fun (_ : Unit) => [.no]) (show DB ⟨C0.W, K⟩ H0 [sl false ((bV K) ac)] _ (aE K) _ _ from (ck (eq (uS (Cl := d5 K) (O := hZ K) (B := (aE K)) (p := BookT.lines) (ae (A := (bV K)) (f := false) (x := ac) rfl) T.c_Book T.n_Book_lines (fun _ => rfl))))) h
theorem o8 (F : FnP K "check_verse" "check_verse" fK f fd) (T : Txt K mg)
    (D_Book_many : fP P w K mg base (d5 K) "many" 1 ["self"] (spF (sp1 (bV K) (aE K) dh))) : FnOk P w K mg base CX0 2 f fd ["book", "number"] (spF (sp2 (bV K) (aE K) (aE K) cA)) := by
  refine d_ F oY (fun As R h => by obtain ⟨bv, dQ, c, rfl, _⟩ := h; rfl) (fun cdv A outer s H E hr => ?_)
  refine ⟨_, (pss_cons (ps_if (pt_not (pt_chain op_le op_lt pe_int (pv 1) (iP (pv 0) D_Book_many (hr.mono (by decide))))) (pss_cons ps_never pss_nil) pss_nil)
    pss_nil), fun H0 As R hS => ?_⟩
  obtain ⟨bv, dQ, c, rfl, h, rfl⟩ := hS
  exact v7 (B := fun (_ : Unit) => [.no, .no]) (show DB ⟨C0.W, K⟩ H0 [sl false ((bV K) bv), sl false ((aE K) dQ)] _ (aE K) _ _ from (eN (B1 := fun (s1 : Unit) => [sl false ((bV K) bv), sl false ((aE K) dQ)]) (hP (cS (kP (G := leI) (G' := ltI) (g := fun i j => decide (i ≤ j)) (g' := fun i j => decide (i < j)) aq (bx (g := true) (ae (A := (aE K)) (f := false) (x := dQ) rfl)) (pS (Cl := d5 K) (O := hZ K) (ae (A := (bV K)) (f := false) (x := bv) rfl)  (fun _ => rfl)) (fun _ _ => rfl) (fun _ _ => rfl)))) mN (cr (s := ()) (.cons .same (.cons .same .nil))) (fun s1 => (cr (s := ()) (.cons .drop (.cons .drop .nil)))))) h
theorem qm (F : FnP K "verse" "Book.verse" gi f fd) (T : Txt K mg)
    (D_check_verse : cf P w K mg base "check_verse" 2 ["book", "number"] (spF (sp2 (bV K) (aE K) (aE K) cA))) : FnOk P w K mg base CX0 3 f fd ["self", "number"] (spF (sp2 (bV K) (aE K) (aE K) bM)) := by
  refine d_ F qi (fun As R h => by obtain ⟨ac, dQ, c, rfl, _⟩ := h; rfl) (fun cdv A outer s H E hr => ?_)
  refine ⟨_, (pss_cons (ps_expr (bT D_check_verse (hr.mono (by decide)) (by rfl) (pa_cons (pv 0) (pa_cons (pv 1) pa_nil))))
    (pss_cons (ps_ret (pe_callTy (jb (K := K) rfl) (by rfl) T.b_list (by decide +kernel) (pa_cons (pe_ix (bt (K := K) rfl) (gj (K := K) rfl (pv 0) rfl) (pv 1) (fun _ _ => rfl)) pa_nil))) pss_nil)), fun H0 As R hS => ?_⟩
  obtain ⟨ac, dQ, c, rfl, h, rfl⟩ := hS
  exact du (B := fun (_ : Unit) => [.no, .no]) (show DB ⟨C0.W, K⟩ H0 [sl false ((bV K) ac), sl false ((aE K) dQ)] _ (aE K) _ _ from (BE (gr cO (ae (A := (bV K)) (f := false) (x := ac) rfl) (bx (g := true) (ae (A := (aE K)) (f := false) (x := dQ) rfl))) (ck (kO (j9 (uS (Cl := d5 K) (O := hZ K) (B := (aE K)) (p := BookT.lines) (ae (A := (bV K)) (f := false) (x := ac) rfl) T.c_Book T.n_Book_lines (fun _ => rfl)) (bx (g := true) (ae (A := (aE K)) (f := false) (x := dQ) rfl))))))) h
theorem o_ (F : FnP K "verses" "Book.verses" eU f fd) (T : Txt K mg) : FnOk P w K mg base CX0 1 f fd ["self"] (spF (sp1 (bV K) (aE K) fO)) := by
  refine d_ F iW (fun As R h => by obtain ⟨ac, c, rfl, _⟩ := h; rfl) (fun cdv A outer s H E hr => ?_)
  refine ⟨_, (pss_cons (ps_ret (pe_lc (own := [("line", 1)]) (g := (gName 1)) (by rfl) iW.nd (f8 (K := K) rfl (gj (K := K) rfl (pv 0) rfl)) (blkOk_by (own := [("line", 1)]) (N := ["self", "line"]) (sc := defScope eU) (by decide +kernel)) (fun _ _ _ _ _ => (pg_name (i := 1) iW.nd rfl (by first | exact Or.inl rfl | exact Or.inr rfl))) (fun _ _ _ _ _ => pts_nil) (fun _ _ _ _ _ => (pe_callTy (jb (K := K) rfl) (by rfl) T.b_list (by decide +kernel) (pa_cons (pv 1) pa_nil))))) pss_nil), fun H0 As R hS => ?_⟩
  obtain ⟨ac, c, rfl, h, rfl⟩ := hS
  exact du (B := fun (_ : Unit) => [.no, .no]) (show DB ⟨C0.W, K⟩ H0 [sl false ((bV K) ac), .no] _ (aE K) _ _ from (ck (iy (vs := [1]) (gd (uS (Cl := d5 K) (O := hZ K) (B := (aE K)) (p := BookT.lines) (ae (A := (bV K)) (f := false) (x := ac) rfl) T.c_Book T.n_Book_lines (fun _ => rfl))) (fun x1 => cL) (fun x1 => eM) (fun x1 => (kO (ae (A := (aE K)) (f := false) (x := x1) rfl)))))) h
theorem ul (F : FnP K "is_name" "is_name" ic f fd) (T : Txt K mg) : FnOk P w K mg base CX0 1 f fd ["text"] (spF (sp1 (aE K) (aE K) ij)) := by
  refine d_ F lH (fun As R h => by obtain ⟨gz, c, rfl, _⟩ := h; rfl) (fun cdv A outer s H E hr => ?_)
  refine ⟨_, (pss_cons (ps_ret (pe_and (pe_chain op_le op_le pe_int (pe_callB (b_ (K := K) rfl) (by rfl) T.b_len (by decide +kernel) (pa_cons (pv 0) pa_nil)) (kz (by rfl) T.g_MOST_LETTERS_hall)) (pe_one (pe_callB (j4 (K := K) rfl rfl) (by rfl) T.b_all (by decide +kernel) (pa_cons (pe_lc (own := [("letter", 1)]) (g := (gName 1)) (by rfl) lH.nd (pi_str (pv 0)) (blkOk_by (own := [("letter", 1)]) (N := ["text", "letter"]) (sc := defScope ic) (by decide +kernel)) (fun _ _ _ _ _ => (pg_name (i := 1) lH.nd rfl (by first | exact Or.inl rfl | exact Or.inr rfl))) (fun _ _ _ _ _ => pts_nil) (fun _ _ _ _ _ => (pe_chain op_le_str op_le_str pe_str (pv 1) pe_str))) pa_nil))))) pss_nil), fun H0 As R hS => ?_⟩
  obtain ⟨gz, c, rfl, h, rfl⟩ := hS
  exact du (B := fun (_ : Unit) => [.no, .no]) (show DB ⟨C0.W, K⟩ H0 [sl false ((aE K) gz), .no] _ (aE K) _ _ from (ck (pU (kP (G := leI) (G' := leI) (g := fun i j => decide (i ≤ j)) (g' := fun i j => decide (i ≤ j)) aq (sk (bx (g := true) (ae (A := (aE K)) (f := false) (x := gz) rfl))) (aq (i := 8)) (fun _ _ => rfl) (fun _ _ => rfl)) (nG (iy (vs := [1]) (sb (bx (g := true) (ae (A := (aE K)) (f := false) (x := gz) rfl))) (fun x1 => cL) (fun x1 => eM) (fun x1 => (zh bE (bx (g := true) (ae (A := (aE K)) (f := true) (x := x1) rfl)) bE))))))) h
theorem rE (F : FnP K "check_new" "check_new" gR f fd) (T : Txt K mg)
    (D_is_name : cf P w K mg base "is_name" 1 ["text"] (spF (sp1 (aE K) (aE K) ij))) : FnOk P w K mg base CX0 2 f fd ["named", "name"] (spF (sp2 (aDs (bV K)) (aE K) (aE K) fq)) := by
  refine d_ F rj (fun As R h => by obtain ⟨io, dM, c, rfl, _⟩ := h; rfl) (fun cdv A outer s H E hr => ?_)
  refine ⟨_, (pss_cons (ps_if (pt_not (pt_val (bT D_is_name (hr.mono (by decide)) (by rfl) (pa_cons (pv 1) pa_nil)))) (pss_cons ps_never pss_nil) pss_nil)
    (pss_cons (ps_if (pt_cmp (pc_din (hu_of hr) (pv 1) (pv 0)) rfl) (pss_cons ps_never pss_nil) pss_nil)
    (pss_cons (ps_if (pt_cmpR op_ge (pe_callB u5 (by rfl) T.b_len (by decide +kernel) (pa_cons (pv 0) pa_nil)) (kz (by rfl) T.g_MOST_NAMES) (nomark _)) (pss_cons ps_never pss_nil) pss_nil)
    pss_nil))), fun H0 As R hS => ?_⟩
  obtain ⟨io, dM, c, rfl, h, rfl⟩ := hS
  exact v7 (B := fun (_ : Unit) => [.no, .no]) (show DB ⟨C0.W, K⟩ H0 [sl false ((aDs (bV K)) io), sl false ((aE K) dM)] _ (aE K) _ _ from (eN (B1 := fun (s1 : Unit) => [sl false ((aDs (bV K)) io), sl false ((aE K) dM)]) (hP (jK (fF cO (bx (g := true) (ae (A := (aE K)) (f := false) (x := dM) rfl))))) mN (cr (s := ()) (.cons .same (.cons .same .nil))) (fun s1 => (eN (B1 := fun (s2 : Unit) => [sl false ((aDs (bV K)) io), sl false ((aE K) dM)]) (jK (Bj (bx (g := true) (ae (A := (aE K)) (f := false) (x := dM) rfl)) (ae (A := (aDs (bV K))) (f := false) (x := io) rfl))) mN (cr (s := ()) (.cons .same (.cons .same .nil))) (fun s2 => (eN (B1 := fun (s3 : Unit) => [sl false ((aDs (bV K)) io), sl false ((aE K) dM)]) (cS (pT (G := geI) (g := fun i j => decide (j ≤ i)) (za (K := K) (ae (A := (aDs (bV K))) (f := false) (x := io) rfl)) (aq (i := 8)) (fun _ _ => rfl))) mN (cr (s := ()) (.cons .same (.cons .same .nil))) (fun s3 => (cr (s := ()) (.cons .drop (.cons .drop .nil)))))))))) h
theorem qj (F : FnP K "book_named" "book_named" gg f fd) (T : Txt K mg) : FnOk P w K mg base CX0 1 f fd ["shelf", "name"] (spR (sp2 (aDs (bV K)) (aE K) (bV K) eJ)) := by
  refine pi F qg (fun As R h => by obtain ⟨jd, dM, c, rfl, _⟩ := h; rfl) (fun cdv A outer s H E hr => ?_)
  refine ⟨_, (pss_cons (ps_if (pt_cmp (pc_dnotin (hu_of hr) (pv 1) (pv 0)) rfl) (pss_cons ps_never pss_nil) pss_nil)
    (pss_cons (ps_ret (pe_dget (hu_of hr) (pv 0) (pv 1) (fun _ _ => rfl))) pss_nil)), fun H0 As R hS => ?_⟩
  obtain ⟨jd, dM, c, rfl, h, rfl⟩ := hS
  exact du (B := fun (_ : Unit) => [.no, .no]) (show DB ⟨C0.W, K⟩ H0 [sl true ((aDs (bV K)) jd), sl true ((aE K) dM)] _ (bV K) _ _ from (eN (B1 := fun (s1 : Unit) => [sl true ((aDs (bV K)) jd), sl true ((aE K) dM)]) (jK (uP (bx (g := true) (ae (A := (aE K)) (f := true) (x := dM) rfl)) (ae (A := (aDs (bV K))) (f := true) (x := jd) rfl))) mN (cr (s := ()) (.cons .same (.cons .same .nil))) (fun s1 => (ck (zf (ae (A := (aDs (bV K))) (f := true) (x := jd) rfl) (bx (g := true) (ae (A := (aE K)) (f := true) (x := dM) rfl))))))) h
theorem rA (F : FnP K "new_lists" "new_lists" fY f fd) (T : Txt K mg) : FnOk P w K mg base CX0 1 f fd ["rows"] (spF (sp1 (aE K) (aE K) df)) := by
  refine d_ F jV (fun As R h => by obtain ⟨cj, c, rfl, _⟩ := h; rfl) (fun cdv A outer s H E hr => ?_)
  refine ⟨_, (pss_cons (ps_ret (pe_lc (own := [("row", 1)]) (g := (gName 1)) (by rfl) jV.nd (f8 (K := K) rfl (pv 0)) (blkOk_by (own := [("row", 1)]) (N := ["rows", "row"]) (sc := defScope fY) (by decide +kernel)) (fun _ _ _ _ _ => (pg_name (i := 1) jV.nd rfl (by first | exact Or.inl rfl | exact Or.inr rfl))) (fun _ _ _ _ _ => pts_nil) (fun _ _ _ _ _ => (pe_callTy (jb (K := K) rfl) (by rfl) T.b_list (by decide +kernel) (pa_cons (pv 1) pa_nil))))) pss_nil), fun H0 As R hS => ?_⟩
  obtain ⟨cj, c, rfl, h, rfl⟩ := hS
  exact du (B := fun (_ : Unit) => [.no, .no]) (show DB ⟨C0.W, K⟩ H0 [sl false ((aE K) cj), .no] _ (aE K) _ _ from (ck (iy (vs := [1]) (gd (ae (A := (aE K)) (f := false) (x := cj) rfl)) (fun x1 => cL) (fun x1 => eM) (fun x1 => (kO (ae (A := (aE K)) (f := false) (x := x1) rfl)))))) h
theorem sX (F : FnP K "new_deed" "new_deed" gB f fd) (T : Txt K mg)
    (D_new_lists : cf P w K mg base "new_lists" 1 ["rows"] (spF (sp1 (aE K) (aE K) df))) : FnOk P w K mg base CX0 2 f fd ["deed"] (spR (sp1 (aE K) (aE K) eV)) := by
  refine pi F km (fun As R h => by obtain ⟨oR, c, rfl, _⟩ := h; rfl) (fun cdv A outer s H E hr => ?_)
  refine ⟨_, (pss_cons (ps_ret (pe_callTy (t5 (K := K) rfl) (by rfl) T.b_tuple (by decide +kernel) (pa_cons (pe_lc (own := [("thing", 1)]) (g := (gName 1)) (by rfl) km.nd (z9 (K := K) rfl (pv 0)) (blkOk_by (own := [("thing", 1)]) (N := ["deed", "thing"]) (sc := defScope gB) (by decide +kernel)) (fun _ _ _ _ _ => (pg_name (i := 1) km.nd rfl (by first | exact Or.inl rfl | exact Or.inr rfl))) (fun _ _ _ _ _ => pts_nil) (fun _ _ _ _ _ => (pe_ifExp (pt_val (pe_callB (fj (K := K) rfl) (by rfl) T.b_isinstance (by decide +kernel) (pa_cons (pv 1) (pa_cons (pe_bltn (v := .ty "list") (by rfl) T.b_list (by decide +kernel) rfl) pa_nil)))) (bT D_new_lists (hr.mono (by decide)) (by rfl) (pa_cons (pv 1) pa_nil)) (pv 1)))) pa_nil))) pss_nil), fun H0 As R hS => ?_⟩
  obtain ⟨oR, c, rfl, h, rfl⟩ := hS
  exact du (B := fun (_ : Unit) => [.no, .no]) (show DB ⟨C0.W, K⟩ H0 [sl true ((aE K) oR), .no] _ (aE K) _ _ from (ck (Bc (iy (vs := [1]) (AW (ae (A := (aE K)) (f := true) (x := oR) rfl)) (fun x1 => cL) (fun x1 => eM) (fun x1 => (FP (jK (zd (ae (A := (aE K)) (f := true) (x := x1) rfl))) (yY (fF cO (DQ (ae (A := (aE K)) (f := true) (x := x1) rfl)))) (ae (A := (aE K)) (f := true) (x := x1) rfl))))))) h
theorem sW (F : FnP K "standing" "standing" ia f fd) (T : Txt K mg) : FnOk P w K mg base CX0 1 f fd ["hall"] (ip (b9 K)) :=
  ux F sQ ⟨T.c_Hall, T.n_Hall_log, T.n_Hall_done, T.n_Hall_stands⟩ (fun cdv A outer s H E => (pss_cons (ps_ret (pe_ix (bt (K := K) rfl) (gj (K := K) rfl (pv 0) rfl) (gj (K := K) rfl (pv 0) rfl) (fun _ _ => rfl))) pss_nil))
theorem Ad (F : FnP K "note" "note" m_ f fd) (T : Txt K mg) : FnOk P w K mg base CX0 1 f fd ["hall", "deed", "shelf", "tables"] (m8 (b9 K)) :=
  wS F zY ⟨T.c_Hall, T.n_Hall_log, T.n_Hall_done, T.n_Hall_stands⟩ (fun cdv A outer s H E => (pss_cons (vw (gj (K := K) rfl (pv 0) rfl) (gj (K := K) rfl (pv 0) rfl)) (pss_cons (vw (gj (K := K) rfl (pv 0) rfl) (pe_op op_add (gj (K := K) rfl (pv 0) rfl) pe_int)) (pss_cons (ps_expr (pe_bm PySem.F.plainAttrs_list PySem.F.slot_list_append PySem.F.type_list_append mt_append (gj (K := K) rfl (pv 0) rfl) (pa_cons (pv 1) pa_nil))) (pss_cons (ps_expr (pe_bm PySem.F.plainAttrs_list PySem.F.slot_list_append PySem.F.type_list_append mt_append (gj (K := K) rfl (pv 0) rfl) (pa_cons (pe_tup (pa_cons (pv 2) (pa_cons (pv 3) pa_nil))) pa_nil))) (pss_cons (ps_fldaug (pv 0) pe_int ip_add) pss_nil))))))
theorem ni (F : FnP K "__init__" "Hall.__init__" eF f fd) (T : Txt K mg) : FnOk P w K mg base CX0 1 f fd ["self"] (l3 K (b9 K)) :=
  uy F m9 ⟨T.c_Hall, T.n_Hall_log, T.n_Hall_done, T.n_Hall_stands⟩ (fun cdv A outer s H E => (pss_cons (ps_fld (pv 0) (pe_lst pa_nil) rfl) (pss_cons (ps_fld (pv 0) pe_int rfl) (pss_cons (ps_fld (pv 0) (pe_lst (pa_cons (pe_tup (pa_cons pe_dnewK (pa_cons pe_dnewK pa_nil))) pa_nil)) rfl) pss_nil))))
theorem jD (F : FnP K "shelve" "Hall.shelve" gw f fd) (T : Txt K mg)
    (D_Book___init___x : ua P w K mg base "Book" (d5 K) 4 ["self", "verses"] (qf (ui K (aE K) (hZ K) c_) (d5 K)))
    (D_check_new : cf P w K mg base "check_new" 2 ["named", "name"] (spF (sp2 (aDs (bV K)) (aE K) (aE K) fq)))
    (D_new_lists : cf P w K mg base "new_lists" 1 ["rows"] (spF (sp1 (aE K) (aE K) df)))
    (D_standing : cf P w K mg base "standing" 1 ["hall"] ( (ip (b9 K))))
    (D_note : cf P w K mg base "note" 1 ["hall", "deed", "shelf", "tables"] ( (m8 (b9 K)))) : FnOk P w K mg base (L2.CX P w) 6 f fd ["self", "name", "verses"] (ri K (b9 K) (fun n : Str => aE K n) (fun r : List (List Str) => aE K r) bP) :=
  tL F gf (fun cdv A outer s H E hr => by
    have tk := m5 (P := P) (w := w) (K := K) (mg := mg) (base := base) (N := ["self", "name", "verses", "shelf", "tables", "book"]) (qual := "Hall.shelve") (scope := defScope gw) (f := f) (cd := cdv) (A := A) (outer := outer) (s := s) (H := H) (E := E)
    exact (pss_cons (ps_asg (bT D_standing (hr.mono (by decide)) (by rfl) (pa_cons (pv 0) pa_nil)) (pg_tup rfl (pgs_cons (pg_name (i := 3) gf.nd rfl (by first | exact Or.inl rfl | exact Or.inr rfl)) (pgs_cons (pg_name (i := 4) gf.nd rfl (by first | exact Or.inl rfl | exact Or.inr rfl)) pgs_nil))))
    (pss_cons (ps_expr (bT D_check_new (hr.mono (by decide)) (by rfl) (pa_cons (pv 3) (pa_cons (pv 1) pa_nil))))
    (pss_cons (ps_set (i := 5) gf.nd rfl (by first | exact Or.inl rfl | exact Or.inr rfl) (CK D_Book___init___x (hr.mono (by decide)) tk (by rfl) (pa_cons (pv 2) pa_nil)))
    (pss_cons (ps_expr (bT D_note (hr.mono (by decide)) (by rfl) (pa_cons (pv 0) (pa_cons (pe_tup (pa_cons pe_str (pa_cons (pv 1) (pa_cons (bT D_new_lists (hr.mono (by decide)) (by rfl) (pa_cons (pv 2) pa_nil)) pa_nil)))) (pa_cons (wE (pv 3) (pv 1) (pv 5)) (pa_cons (pv 4) pa_nil)))))) pss_nil)))))
theorem o9 (F : FnP K "shelve" "Hall.shelve" eT f fd) (T : Txt K mg)
    (D_Book___init___x : ua P w K mg base "Book" (d5 K) 4 ["self", "verses"] (qf (ui K (aE K) (hZ K) c_) (d5 K)))
    (D_check_new : cf P w K mg base "check_new" 2 ["named", "name"] (spF (sp2 (aDs (bV K)) (aE K) (aE K) fq)))
    (D_new_lists : cf P w K mg base "new_lists" 1 ["rows"] (spF (sp1 (aE K) (aE K) df)))
    (D_standing : cf P w K mg base "standing" 1 ["hall"] ( (ip (b9 K))))
    (D_note : cf P w K mg base "note" 1 ["hall", "deed", "shelf", "tables"] ( (m8 (b9 K)))) : FnOk P w K mg base CX0 6 f fd ["self", "name", "verses"] (wm K (b9 K) (fun n : Str => aE K n) (fun r : List (List Str) => aE K r) bP) :=
  FnOk.calmH (jD F T D_Book___init___x D_check_new D_new_lists D_standing D_note)
theorem ql (F : FnP K "books" "Hall.books" gh f fd) (T : Txt K mg)
    (D_standing : cf P w K mg base "standing" 1 ["hall"] ( (ip (b9 K)))) : FnOk P w K mg base CX0 2 f fd ["self"] (spF (sp1 (b8 K (b9 K)) (aE K) dm)) := by
  refine d_ F qh (fun As R h => by obtain ⟨ac, c, rfl, _⟩ := h; rfl) (fun cdv A outer s H E hr => ?_)
  refine ⟨_, (pss_cons (ps_ret (pe_callTy (t6 rfl) (by rfl) T.b_list (by decide +kernel) (pa_cons (pe_ix (rK (K := K) rfl) (bT D_standing (hr.mono (by decide)) (by rfl) (pa_cons (pv 0) pa_nil)) pe_int (fun _ _ => rfl)) pa_nil))) pss_nil), fun H0 As R hS => ?_⟩
  obtain ⟨ac, c, rfl, h, rfl⟩ := hS
  exact du (B := fun (_ : Unit) => [.no]) (show DB ⟨C0.W, K⟩ H0 [sl false ((b8 K (b9 K)) ac)] _ (aE K) _ _ from (ck (w3 (K := K) (qZ (tW (ae (A := (b8 K (b9 K))) (f := false) (x := ac) rfl)))))) h
theorem qk (F : FnP K "deeds" "Hall.deeds" fA f fd) (T : Txt K mg)
    (D_new_deed : cf P w K mg base "new_deed" 2 ["deed"] (spR (sp1 (aE K) (aE K) eV))) : FnOk P w K mg base CX0 3 f fd ["self"] (spR (sp1 (b8 K (b9 K)) (aE K) dV)) := by
  refine pi F jq (fun As R h => by obtain ⟨ac, c, rfl, _⟩ := h; rfl) (fun cdv A outer s H E hr => ?_)
  refine ⟨_, (pss_cons (ps_ret (pe_lc (own := [("deed", 1)]) (g := (gName 1)) (by rfl) jq.nd (f8 (K := K) rfl (pe_slice (cc (K := K) rfl) (gj (K := K) rfl (pv 0) rfl) po_none (po_some (gj (K := K) rfl (pv 0) rfl)))) (blkOk_by (own := [("deed", 1)]) (N := ["self", "deed"]) (sc := defScope fA) (by decide +kernel)) (fun _ _ _ _ _ => (pg_name (i := 1) jq.nd rfl (by first | exact Or.inl rfl | exact Or.inr rfl))) (fun _ _ _ _ _ => pts_nil) (fun _ _ _ _ _ => (bT D_new_deed (hr.mono (by decide)) (by rfl) (pa_cons (pv 1) pa_nil))))) pss_nil), fun H0 As R hS => ?_⟩
  obtain ⟨ac, c, rfl, h, rfl⟩ := hS
  exact du (B := fun (_ : Unit) => [.no, .no]) (show DB ⟨C0.W, K⟩ H0 [sl true ((b8 K (b9 K)) ac), .no] _ (aE K) _ _ from (ck (iy (vs := [1]) (gd (kM (Bh ⟨T.c_Hall, T.n_Hall_log, T.n_Hall_done, T.n_Hall_stands⟩ (ae (A := (b8 K (b9 K))) (f := true) (x := ac) rfl)) dq (cU (zg ⟨T.c_Hall, T.n_Hall_log, T.n_Hall_done, T.n_Hall_stands⟩ (ae (A := (b8 K (b9 K))) (f := true) (x := ac) rfl))))) (fun x1 => cL) (fun x1 => eM) (fun x1 => (w4 (ae (A := (aE K)) (f := true) (x := x1) rfl)))))) h
theorem rF (F : FnP K "book" "Hall.book" gS f fd) (T : Txt K mg)
    (D_book_named : cf P w K mg base "book_named" 1 ["shelf", "name"] (spR (sp2 (aDs (bV K)) (aE K) (bV K) eJ)))
    (D_standing : cf P w K mg base "standing" 1 ["hall"] ( (ip (b9 K)))) : FnOk P w K mg base CX0 2 f fd ["self", "name"] (spR (sp2 (b8 K (b9 K)) (aE K) (bV K) fu)) := by
  refine pi F rk (fun As R h => by obtain ⟨ac, dM, c, rfl, _⟩ := h; rfl) (fun cdv A outer s H E hr => ?_)
  refine ⟨_, (pss_cons (ps_ret (bT D_book_named (hr.mono (by decide)) (by rfl) (pa_cons (pe_ix (rK (K := K) rfl) (bT D_standing (hr.mono (by decide)) (by rfl) (pa_cons (pv 0) pa_nil)) pe_int (fun _ _ => rfl)) (pa_cons (pv 1) pa_nil)))) pss_nil), fun H0 As R hS => ?_⟩
  obtain ⟨ac, dM, c, rfl, h, rfl⟩ := hS
  exact du (B := fun (_ : Unit) => [.no, .no]) (show DB ⟨C0.W, K⟩ H0 [sl true ((b8 K (b9 K)) ac), sl true ((aE K) dM)] _ (bV K) _ _ from (ck (q7 (qZ (tW (ae (A := (b8 K (b9 K))) (f := true) (x := ac) rfl))) (bx (g := true) (ae (A := (aE K)) (f := true) (x := dM) rfl))))) h
theorem nh (F : FnP K "_law_book_told" "_law_book_told" dN f fd) (T : Txt K mg)
    (D_law_same : cf P w K mg base "_law_same" 9 ["_law_found", "_law_due"] (spF (jy K 9)))
    (D_Book_many : fP P w K mg base (d5 K) "many" 1 ["self"] (spF (sp1 (bV K) (aE K) dh)))
    (D_Book_verse : fP P w K mg base (d5 K) "verse" 3 ["self", "number"] (spF (sp2 (bV K) (aE K) (aE K) bM)))
    (D_Book_verses : fP P w K mg base (d5 K) "verses" 1 ["self"] (spF (sp1 (bV K) (aE K) fO))) : FnOk P w K mg base CX0 10 f fd ["_law_book_here", "_law_verses"] (spF (sp2 (bV K) (aE K) (aE K) cW)) := by
  refine d_ F h_ (fun As R h => by obtain ⟨cu, aa, c, rfl, _⟩ := h; rfl) (fun cdv A outer s H E hr => ?_)
  refine ⟨_, (pss_cons (ps_if (PW.pt (pw_or (pt_not (pt_val (bT D_law_same (hr.mono (by decide)) (by rfl) (pa_cons (iP (pv 0) D_Book_many (hr.mono (by decide))) (pa_cons (pe_callB (b_ (K := K) rfl) (by rfl) T.b_len (by decide +kernel) (pa_cons (pv 1) pa_nil)) pa_nil))))) (pw_or1 (pt_not (pt_val (bT D_law_same (hr.mono (by decide)) (by rfl) (pa_cons (iP (pv 0) D_Book_verses (hr.mono (by decide))) (pa_cons (pv 1) pa_nil)))))))) (pss_cons (ps_ret pe_bl) pss_nil) pss_nil)
    (pss_cons (ps_ret (pe_callB (j4 (K := K) rfl rfl) (by rfl) T.b_all (by decide +kernel) (pa_cons (pe_lc (own := [("_law_verse_here", 2)]) (g := (gName 2)) (by rfl) h_.nd (pi_range1 (by rfl) T.b_range (pa_cons (pe_callB (b_ (K := K) rfl) (by rfl) T.b_len (by decide +kernel) (pa_cons (pv 1) pa_nil)) pa_nil)) (blkOk_by (own := [("_law_verse_here", 2)]) (N := ["_law_book_here", "_law_verses", "_law_verse_here"]) (sc := defScope dN) (by decide +kernel)) (fun _ _ _ _ _ => (pg_name (i := 2) h_.nd rfl (by first | exact Or.inl rfl | exact Or.inr rfl))) (fun _ _ _ _ _ => pts_nil) (fun _ _ _ _ _ => (bT D_law_same (hr.mono (by decide)) (by rfl) (pa_cons (o3 (pv 0) D_Book_verse (hr.mono (by decide)) (pa_cons (pv 2) pa_nil)) (pa_cons (pe_ix (bt (K := K) rfl) (pv 1) (pv 2) (fun _ _ => rfl)) pa_nil))))) pa_nil))) pss_nil)), fun H0 As R hS => ?_⟩
  obtain ⟨cu, aa, c, rfl, h, rfl⟩ := hS
  exact du (B := fun (_ : Unit) => [.no, .no, .no]) (show DB ⟨C0.W, K⟩ H0 [sl false ((bV K) cu), sl false ((aE K) aa), .no] _ (aE K) _ _ from (eN (B1 := fun (s1 : Unit) => [sl false ((bV K) cu), sl false ((aE K) aa), .no]) (uL (hP (jK (si cO (pS (Cl := d5 K) (O := hZ K) (ae (A := (bV K)) (f := false) (x := cu) rfl)  (fun _ => rfl)) (eq (ae (A := (aE K)) (f := false) (x := aa) rfl))))) (hP (jK (si cO (pS (Cl := d5 K) (O := hZ K) (ae (A := (bV K)) (f := false) (x := cu) rfl)  (fun _ => rfl)) (ae (A := (aE K)) (f := false) (x := aa) rfl))))) (ck q8) (cr (s := ()) (.cons .same (.cons .same (.cons .drop .nil)))) (fun s1 => (ck (nG (iy (vs := [2]) (fh (eq (ae (A := (aE K)) (f := false) (x := aa) rfl))) (fun x2 => cL) (fun x2 => eM) (fun x2 => (si cO (y_ (Cl := d5 K) (O := hZ K) (ae (A := (bV K)) (f := false) (x := cu) rfl) (bx (g := true) (ae (A := (aE K)) (f := true) (x := x2) rfl)) (fun _ => rfl)) (j9 (ae (A := (aE K)) (f := false) (x := aa) rfl) (bx (g := true) (ae (A := (aE K)) (f := true) (x := x2) rfl))))))))))) h
theorem o6 (F : FnP K "_law_is_line" "_law_is_line" eR f fd) (T : Txt K mg) : FnOk P w K mg base CX0 1 f fd ["_law_line"] (spF (sp1 (aE K) (aE K) fM)) := by
  refine d_ F g7 (fun As R h => by obtain ⟨a7, c, rfl, _⟩ := h; rfl) (fun cdv A outer s H E hr => ?_)
  refine ⟨_, (pss_cons (ps_if (pt_not (pt_chain op_le op_le pe_int (pe_callB (b_ (K := K) rfl) (by rfl) T.b_len (by decide +kernel) (pa_cons (pv 0) pa_nil)) pe_int)) (pss_cons (ps_ret pe_bl) pss_nil) pss_nil)
    (pss_cons (ps_for PassesOwn.never rfl (f8 (K := K) rfl (pv 0)) (pg_name (i := 1) g7.nd rfl (by first | exact Or.inl rfl | exact Or.inr rfl)) (pss_cons (ps_if (PW.pt (pw_or (pt_not (pt_chain op_le op_le pe_int (pe_callB (b_ (K := K) rfl) (by rfl) T.b_len (by decide +kernel) (pa_cons (pv 1) pa_nil)) pe_int)) (pw_or1 (pt_not (pt_val (pe_callB (j4 (K := K) rfl rfl) (by rfl) T.b_all (by decide +kernel) (pa_cons (pe_lc (own := [("_law_sign", 2)]) (g := (gName 2)) (by rfl) g7.nd (pi_str (pv 1)) (blkOk_by (own := [("_law_sign", 2)]) (N := ["_law_line", "_law_text", "_law_sign"]) (sc := defScope eR) (by decide +kernel)) (fun _ _ _ _ _ => (pg_name (i := 2) g7.nd rfl (by first | exact Or.inl rfl | exact Or.inr rfl))) (fun _ _ _ _ _ => pts_nil) (fun _ _ _ _ _ => (pe_cmpR op_in_sign (pv 2) pe_str (by rfl)))) pa_nil))))))) (pss_cons (ps_ret pe_bl) pss_nil) pss_nil)
    pss_nil))
    (pss_cons (ps_ret pe_bl) pss_nil))), fun H0 As R hS => ?_⟩
  obtain ⟨a7, c, rfl, h, rfl⟩ := hS
  exact du (B := fun (_ : Unit) => [.no, .no, .no]) (show DB ⟨C0.W, K⟩ H0 [sl false ((aE K) a7), .no, .no] _ (aE K) _ _ from (eN (B1 := fun (s1 : Unit) => [sl false ((aE K) a7), .no, .no]) (hP (cS (kP (G := leI) (G' := leI) (g := fun i j => decide (i ≤ j)) (g' := fun i j => decide (i ≤ j)) aq (eq (ae (A := (aE K)) (f := false) (x := a7) rfl)) aq (fun _ _ => rfl) (fun _ _ => rfl)))) (ck q8) (cr (s := ()) (.cons .same (.cons .drop (.cons .drop .nil)))) (fun s1 => (il (vs := [1]) (B1 := fun (s2 : Unit) => [sl false ((aE K) a7), .no, .no]) (s0 := ()) (gd (ae (A := (aE K)) (f := false) (x := a7) rfl)) (.cons .same (.cons .drop (.cons .drop .nil))) (fun x3 s2 => cL) (fun x3 s2 => (eN (B1 := fun (s7 : Unit) => [sl false ((aE K) a7), sl false ((aE K) x3), .no]) (uL (hP (cS (kP (G := leI) (G' := leI) (g := fun i j => decide (i ≤ j)) (g' := fun i j => decide (i ≤ j)) aq (sk (bx (g := true) (ae (A := (aE K)) (f := false) (x := x3) rfl))) aq (fun _ _ => rfl) (fun _ _ => rfl)))) (hP (jK (nG (iy (vs := [2]) (sb (bx (g := true) (ae (A := (aE K)) (f := false) (x := x3) rfl))) (fun x6 => cL) (fun x6 => eM) (fun x6 => (ze (bx (g := true) (ae (A := (aE K)) (f := true) (x := x6) rfl)) bE))))))) (ck q8) (cr (s := ()) (.cons .same (.cons .same (.cons .drop .nil)))) (fun s7 => (cr (s := ()) (.cons .same (.cons .drop (.cons .drop .nil))))))) (fun s2 => (ck q8)))))) h
theorem n0 (F : FnP K "_law_book_bad" "_law_book_bad" fg f fd) (T : Txt K mg)
    (D_law_alike : cf P w K mg base "_law_alike" 1 ["_law_one", "_law_other"] (spF (sp2 (aE K) (aE K) (aE K) dY)))
    (D_law_is_line : cf P w K mg base "_law_is_line" 1 ["_law_line"] (spF (sp1 (aE K) (aE K) fM))) : FnOk P w K mg base CX0 2 f fd ["_law_verses"] (spF (sp1 (aE K) (aE K) eg)) := by
  refine d_ F gv (fun As R h => by obtain ⟨aa, c, rfl, _⟩ := h; rfl) (fun cdv A outer s H E hr => ?_)
  refine ⟨_, (pss_cons (ps_if (pt_not (pt_chain op_le op_le pe_int (pe_callB (b_ (K := K) rfl) (by rfl) T.b_len (by decide +kernel) (pa_cons (pv 0) pa_nil)) pe_int)) (pss_cons (ps_ret (pe_tup (pa_cons pe_str (pa_cons pe_int (pa_cons pe_int pa_nil))))) pss_nil) pss_nil)
    (pss_cons (ps_for PassesOwn.never rfl (pi_range1 (by rfl) T.b_range (pa_cons (pe_callB (b_ (K := K) rfl) (by rfl) T.b_len (by decide +kernel) (pa_cons (pv 0) pa_nil)) pa_nil)) (pg_name (i := 1) gv.nd rfl (by first | exact Or.inl rfl | exact Or.inr rfl)) (pss_cons (ps_if (pt_not (pt_val (bT D_law_is_line (hr.mono (by decide)) (by rfl) (pa_cons (pe_ix (bt (K := K) rfl) (pv 0) (pv 1) (fun _ _ => rfl)) pa_nil)))) (pss_cons (ps_ret (pe_tup (pa_cons pe_str (pa_cons (pv 1) (pa_cons pe_int pa_nil))))) pss_nil) pss_nil)
    pss_nil))
    (pss_cons (ps_for PassesOwn.never rfl (pi_range1 (by rfl) T.b_range (pa_cons (pe_callB (b_ (K := K) rfl) (by rfl) T.b_len (by decide +kernel) (pa_cons (pv 0) pa_nil)) pa_nil)) (pg_name (i := 2) gv.nd rfl (by first | exact Or.inl rfl | exact Or.inr rfl)) (pss_cons (ps_for PassesOwn.never rfl (pi_range1 (by rfl) T.b_range (pa_cons (pv 2) pa_nil)) (pg_name (i := 3) gv.nd rfl (by first | exact Or.inl rfl | exact Or.inr rfl)) (pss_cons (ps_if (pt_val (bT D_law_alike (hr.mono (by decide)) (by rfl) (pa_cons (pe_ix (bt (K := K) rfl) (pv 0) (pv 3) (fun _ _ => rfl)) (pa_cons (pe_ix (bt (K := K) rfl) (pv 0) (pv 2) (fun _ _ => rfl)) pa_nil)))) (pss_cons (ps_ret (pe_tup (pa_cons pe_str (pa_cons (pv 3) (pa_cons (pv 2) pa_nil))))) pss_nil) pss_nil)
    pss_nil))
    pss_nil))
    (pss_cons (ps_ret (pe_tup (pa_cons pe_str (pa_cons pe_int (pa_cons pe_int pa_nil))))) pss_nil)))), fun H0 As R hS => ?_⟩
  obtain ⟨aa, c, rfl, h, rfl⟩ := hS
  exact du (B := fun (_ : Unit) => [.no, .no, .no, .no]) (show DB ⟨C0.W, K⟩ H0 [sl false ((aE K) aa), .no, .no, .no] _ (aE K) _ _ from (eN (B1 := fun (s1 : Unit) => [sl false ((aE K) aa), .no, .no, .no]) (hP (cS (kP (G := leI) (G' := leI) (g := fun i j => decide (i ≤ j)) (g' := fun i j => decide (i ≤ j)) aq (eq (ae (A := (aE K)) (f := false) (x := aa) rfl)) aq (fun _ _ => rfl) (fun _ _ => rfl)))) (ck (hV bE aq aq)) (cr (s := ()) (.cons .same (.cons .drop (.cons .drop (.cons .drop .nil))))) (fun s1 => (il (vs := [1]) (B1 := fun (s2 : Unit) => [sl false ((aE K) aa), .no, .no, .no]) (s0 := ()) (fh (eq (ae (A := (aE K)) (f := false) (x := aa) rfl))) (.cons .same (.cons .drop (.cons .drop (.cons .drop .nil)))) (fun x3 s2 => cL) (fun x3 s2 => (eN (B1 := fun (s5 : Unit) => [sl false ((aE K) aa), sl true ((aE K) x3), .no, .no]) (hP (jK (fF cO (j9 (ae (A := (aE K)) (f := false) (x := aa) rfl) (bx (g := true) (ae (A := (aE K)) (f := true) (x := x3) rfl)))))) (ck (hV bE (bx (g := true) (ae (A := (aE K)) (f := true) (x := x3) rfl)) aq)) (cr (s := ()) (.cons .same (.cons .same (.cons .drop (.cons .drop .nil))))) (fun s5 => (cr (s := ()) (.cons .same (.cons .drop (.cons .drop (.cons .drop .nil)))))))) (fun s2 => (il (vs := [2]) (B1 := fun (s6 : Unit) => [sl false ((aE K) aa), .no, .no, .no]) (s0 := ()) (fh (eq (ae (A := (aE K)) (f := false) (x := aa) rfl))) (.cons .same (.cons .drop (.cons .drop (.cons .drop .nil)))) (fun x7 s6 => cL) (fun x7 s6 => (il (vs := [3]) (B1 := fun (s12 : Unit) => [sl false ((aE K) aa), .no, sl true ((aE K) x7), .no]) (s0 := ()) (fh (bx (g := true) (ae (A := (aE K)) (f := true) (x := x7) rfl))) (.cons .same (.cons .drop (.cons .same (.cons .drop .nil)))) (fun x13 s12 => cL) (fun x13 s12 => (eN (B1 := fun (s15 : Unit) => [sl false ((aE K) aa), .no, sl true ((aE K) x7), sl true ((aE K) x13)]) (jK (gr cO (j9 (ae (A := (aE K)) (f := false) (x := aa) rfl) (bx (g := true) (ae (A := (aE K)) (f := true) (x := x13) rfl))) (j9 (ae (A := (aE K)) (f := false) (x := aa) rfl) (bx (g := true) (ae (A := (aE K)) (f := true) (x := x7) rfl))))) (ck (hV bE (bx (g := true) (ae (A := (aE K)) (f := true) (x := x13) rfl)) (bx (g := true) (ae (A := (aE K)) (f := true) (x := x7) rfl)))) (cr (s := ()) (.cons .same (.cons .drop (.cons .same (.cons .same .nil))))) (fun s15 => (cr (s := ()) (.cons .same (.cons .drop (.cons .same (.cons .drop .nil)))))))) (fun s12 => (cr (s := ()) (.cons .same (.cons .drop (.cons .drop (.cons .drop .nil)))))))) (fun s6 => (ck (hV bE aq aq))))))))) h
theorem lK (F : FnP K "_law_spoilt_book" "_law_spoilt_book" dl f fd) (T : Txt K mg) : FnOk P w K mg base CX0 1 f fd ["_law_verses", "_law_d"] (spR (sp2 (aE K) (aE K) (aE K) dJ)) := by
  refine pi F cR (fun As R h => by obtain ⟨aa, af, c, rfl, _⟩ := h; rfl) (fun cdv A outer s H E hr => ?_)
  refine ⟨_, (pss_cons (ps_set (i := 2) cR.nd rfl (by first | exact Or.inl rfl | exact Or.inr rfl) (pe_op op_mod (pe_ix (bt (K := K) rfl) (pv 1) pe_int (fun _ _ => rfl)) (pe_op op_add (pe_callB (b_ (K := K) rfl) (by rfl) T.b_len (by decide +kernel) (pa_cons (pv 0) pa_nil)) pe_int)))
    (pss_cons (ps_set (i := 3) cR.nd rfl (by first | exact Or.inl rfl | exact Or.inr rfl) (pe_ix (bt (K := K) rfl) (pv 0) (pe_op op_mod (pe_ix (bt (K := K) rfl) (pv 1) pe_int (fun _ _ => rfl)) (pe_callB (b_ (K := K) rfl) (by rfl) T.b_len (by decide +kernel) (pa_cons (pv 0) pa_nil))) (fun _ _ => rfl)))
    (pss_cons (ps_set (i := 4) cR.nd rfl (by first | exact Or.inl rfl | exact Or.inr rfl) (pe_op op_mod (pe_ix (bt (K := K) rfl) (pv 1) pe_int (fun _ _ => rfl)) (pe_callB (call_max2 rfl) (by rfl) T.b_max (by decide +kernel) (pa_cons pe_int (pa_cons (pe_callB (b_ (K := K) rfl) (by rfl) T.b_len (by decide +kernel) (pa_cons (pv 3) pa_nil)) pa_nil)))))
    (pss_cons (ps_if (pt_cmpR op_eq (pe_op op_mod (pe_ix (bt (K := K) rfl) (pv 1) pe_int (fun _ _ => rfl)) pe_int) pe_int (nomark _)) (pss_cons (ps_set (i := 5) cR.nd rfl (by first | exact Or.inl rfl | exact Or.inr rfl) (pe_ix (bt (K := K) rfl) (pe_lst (pa_cons pe_str (pa_cons pe_str (pa_cons pe_str (pa_cons pe_str (pa_cons pe_str (pa_cons pe_str (pa_cons pe_str (pa_cons pe_str (pa_cons pe_str pa_nil)))))))))) (pe_op op_mod (pe_ix (bt (K := K) rfl) (pv 1) pe_int (fun _ _ => rfl)) pe_int) (fun _ _ => rfl)))
    (pss_cons (ps_set (i := 3) cR.nd rfl (by first | exact Or.inl rfl | exact Or.inr rfl) (pe_op (dU (K := K) rfl) (pe_op (dU (K := K) rfl) (pe_slice (cc (K := K) rfl) (pv 3) po_none (po_some (pv 4))) (pe_lst (pa_cons (pv 5) pa_nil))) (pe_slice (cc (K := K) rfl) (pv 3) (po_some (pe_op op_add (pv 4) pe_int)) po_none)))
    (pss_cons (ps_ret (pe_op (dU (K := K) rfl) (pe_op (dU (K := K) rfl) (pe_slice (cc (K := K) rfl) (pv 0) po_none (po_some (pv 2))) (pe_lst (pa_cons (pv 3) pa_nil))) (pe_slice (cc (K := K) rfl) (pv 0) (po_some (pv 2)) po_none))) pss_nil))) pss_nil)
    (pss_cons (ps_if (pt_cmpR op_eq (pe_op op_mod (pe_ix (bt (K := K) rfl) (pv 1) pe_int (fun _ _ => rfl)) pe_int) pe_int (nomark _)) (pss_cons (ps_ret (pe_op (dU (K := K) rfl) (pe_op (dU (K := K) rfl) (pe_slice (cc (K := K) rfl) (pv 0) po_none (po_some (pv 2))) (pe_lst (pa_cons (pe_slice (cc (K := K) rfl) (pv 3) po_none (po_some (pv 4))) pa_nil))) (pe_slice (cc (K := K) rfl) (pv 0) (po_some (pv 2)) po_none))) pss_nil) pss_nil)
    (pss_cons (ps_if (pt_cmpR op_eq (pe_op op_mod (pe_ix (bt (K := K) rfl) (pv 1) pe_int (fun _ _ => rfl)) pe_int) pe_int (nomark _)) (pss_cons (ps_ret (pe_op (dU (K := K) rfl) (pe_op (dU (K := K) rfl) (pe_slice (cc (K := K) rfl) (pv 0) po_none (po_some (pv 2))) (pe_lst (pa_cons (pe_op (dU (K := K) rfl) (pv 3) (pe_op op_rep (pe_lst (pa_cons pe_str pa_nil)) (pe_op op_mod (pe_ix (bt (K := K) rfl) (pv 1) pe_int (fun _ _ => rfl)) pe_int))) pa_nil))) (pe_slice (cc (K := K) rfl) (pv 0) (po_some (pv 2)) po_none))) pss_nil) pss_nil)
    (pss_cons (ps_if (pt_cmpR op_eq (pe_op op_mod (pe_ix (bt (K := K) rfl) (pv 1) pe_int (fun _ _ => rfl)) pe_int) pe_int (nomark _)) (pss_cons (ps_ret (pe_op (dU (K := K) rfl) (pe_op (dU (K := K) rfl) (pe_slice (cc (K := K) rfl) (pv 0) po_none (po_some (pv 2))) (pe_lst (pa_cons (pe_op (dU (K := K) rfl) (pe_slice (cc (K := K) rfl) (pv 3) po_none (po_some (pv 4))) (pe_slice (cc (K := K) rfl) (pe_lst (pa_cons pe_str (pa_cons pe_str pa_nil))) po_none (po_some (pe_op op_mod (pe_ix (bt (K := K) rfl) (pv 1) pe_int (fun _ _ => rfl)) pe_int)))) pa_nil))) (pe_slice (cc (K := K) rfl) (pv 0) (po_some (pv 2)) po_none))) pss_nil) pss_nil)
    (pss_cons (ps_if (pt_cmpR op_eq (pe_op op_mod (pe_ix (bt (K := K) rfl) (pv 1) pe_int (fun _ _ => rfl)) pe_int) pe_int (nomark _)) (pss_cons (ps_ret (pe_op (dU (K := K) rfl) (pe_op (dU (K := K) rfl) (pe_slice (cc (K := K) rfl) (pv 0) po_none (po_some (pv 2))) (pe_lst (pa_cons (pe_lst (pa_cons pe_str (pa_cons (pe_op xY pe_str (pe_op op_add pe_int (pe_op op_mod (pe_ix (bt (K := K) rfl) (pv 1) pe_int (fun _ _ => rfl)) pe_int))) pa_nil))) pa_nil))) (pe_slice (cc (K := K) rfl) (pv 0) (po_some (pv 2)) po_none))) pss_nil) pss_nil)
    (pss_cons (ps_ret (pe_op (dU (K := K) rfl) (pv 0) (pe_lc (own := [("_law_verse_here", 6)]) (g := (gName 6)) (by rfl) cR.nd (f8 (K := K) rfl (pv 0)) (blkOk_by (own := [("_law_verse_here", 6)]) (N := ["_law_verses", "_law_d", "_law_at", "_law_line", "_law_here", "_law_odd", "_law_verse_here"]) (sc := defScope dl) (by decide +kernel)) (fun _ _ _ _ _ => (pg_name (i := 6) cR.nd rfl (by first | exact Or.inl rfl | exact Or.inr rfl))) (fun _ _ _ _ _ => pts_nil) (fun _ _ _ _ _ => (pe_op (dU (K := K) rfl) (pe_lst (pa_cons pe_str pa_nil)) (pe_slice (cc (K := K) rfl) (pv 6) po_none (po_some pe_int))))))) pss_nil))))))))), fun H0 As R hS => ?_⟩
  obtain ⟨aa, af, c, rfl, h, rfl⟩ := hS
  exact du (B := fun (_ : Unit) => [.no, .no, .no, .no, .no, .no, .no]) (show DB ⟨C0.W, K⟩ H0 [sl true ((aE K) aa), sl true ((aE K) af), .no, .no, .no, .no, .no] _ (aE K) _ _ from (cV (i := 2) (f := true) (Ax := (aE K)) (cp (cE (ae (A := (aE K)) (f := true) (x := af) rfl) aq) (dW (eq (ae (A := (aE K)) (f := true) (x := aa) rfl)) aq)) (fun bw => (cV (i := 3) (f := true) (Ax := (aE K)) (j9 (ae (A := (aE K)) (f := true) (x := aa) rfl) (cp (cE (ae (A := (aE K)) (f := true) (x := af) rfl) aq) (eq (ae (A := (aE K)) (f := true) (x := aa) rfl)))) (fun a7 => (cV (i := 4) (f := true) (Ax := (aE K)) (cp (cE (ae (A := (aE K)) (f := true) (x := af) rfl) aq) (DZ aq (eq (ae (A := (aE K)) (f := true) (x := a7) rfl)))) (fun dj => (eN (B1 := fun (s1 : (List Str)) => [sl true ((aE K) aa), sl true ((aE K) af), sl true ((aE K) bw), sl true ((aE K) s1), sl true ((aE K) dj), .no, .no]) (cS (jv (cp (cE (ae (A := (aE K)) (f := true) (x := af) rfl) aq) aq) aq)) (cV (i := 5) (f := true) (Ax := (aE K)) (cE (dP (f := true) (be bE (be bE (be bE (be bE (be bE (be bE (be bE (be bE (be bE (da (α := Str)))))))))))) (cp (cE (ae (A := (aE K)) (f := true) (x := af) rfl) aq) aq)) (fun m4 => (cV (i := 3) (f := true) (Ax := (aE K)) (fC (fC (eX (ae (A := (aE K)) (f := true) (x := a7) rfl) dq (cU (bx (g := true) (ae (A := (aE K)) (f := true) (x := dj) rfl)))) (dP (f := true) (be (bx (g := true) (ae (A := (aE K)) (f := true) (x := m4) rfl)) (da (α := Str))))) (eX (ae (A := (aE K)) (f := true) (x := a7) rfl) (cU (dW (bx (g := true) (ae (A := (aE K)) (f := true) (x := dj) rfl)) aq)) dq)) (fun a7 => (ck (fC (fC (kM (ae (A := (aE K)) (f := true) (x := aa) rfl) dq (cU (bx (g := true) (ae (A := (aE K)) (f := true) (x := bw) rfl)))) (dP (f := true) (be (ae (A := (aE K)) (f := true) (x := a7) rfl) (da (α := (List Str)))))) (kM (ae (A := (aE K)) (f := true) (x := aa) rfl) (cU (bx (g := true) (ae (A := (aE K)) (f := true) (x := bw) rfl))) dq))))))) (cr (s := a7) (.cons .same (.cons .same (.cons .same (.cons .same (.cons .same (.cons .drop (.cons .drop .nil)))))))) (fun s1 => (eN (B1 := fun (s2 : Unit) => [sl true ((aE K) aa), sl true ((aE K) af), sl true ((aE K) bw), sl true ((aE K) s1), sl true ((aE K) dj), .no, .no]) (cS (jv (cp (cE (ae (A := (aE K)) (f := true) (x := af) rfl) aq) aq) aq)) (ck (fC (fC (kM (ae (A := (aE K)) (f := true) (x := aa) rfl) dq (cU (bx (g := true) (ae (A := (aE K)) (f := true) (x := bw) rfl)))) (dP (f := true) (be (eX (ae (A := (aE K)) (f := true) (x := s1) rfl) dq (cU (bx (g := true) (ae (A := (aE K)) (f := true) (x := dj) rfl)))) (da (α := (List Str)))))) (kM (ae (A := (aE K)) (f := true) (x := aa) rfl) (cU (bx (g := true) (ae (A := (aE K)) (f := true) (x := bw) rfl))) dq))) (cr (s := ()) (.cons .same (.cons .same (.cons .same (.cons .same (.cons .same (.cons .drop (.cons .drop .nil)))))))) (fun s2 => (eN (B1 := fun (s3 : Unit) => [sl true ((aE K) aa), sl true ((aE K) af), sl true ((aE K) bw), sl true ((aE K) s1), sl true ((aE K) dj), .no, .no]) (cS (jv (cp (cE (ae (A := (aE K)) (f := true) (x := af) rfl) aq) aq) aq)) (ck (fC (fC (kM (ae (A := (aE K)) (f := true) (x := aa) rfl) dq (cU (bx (g := true) (ae (A := (aE K)) (f := true) (x := bw) rfl)))) (dP (f := true) (be (fC (ae (A := (aE K)) (f := true) (x := s1) rfl) (Be bE (cp (cE (ae (A := (aE K)) (f := true) (x := af) rfl) aq) aq))) (da (α := (List Str)))))) (kM (ae (A := (aE K)) (f := true) (x := aa) rfl) (cU (bx (g := true) (ae (A := (aE K)) (f := true) (x := bw) rfl))) dq))) (cr (s := ()) (.cons .same (.cons .same (.cons .same (.cons .same (.cons .same (.cons .drop (.cons .drop .nil)))))))) (fun s3 => (eN (B1 := fun (s4 : Unit) => [sl true ((aE K) aa), sl true ((aE K) af), sl true ((aE K) bw), sl true ((aE K) s1), sl true ((aE K) dj), .no, .no]) (cS (jv (cp (cE (ae (A := (aE K)) (f := true) (x := af) rfl) aq) aq) aq)) (ck (fC (fC (kM (ae (A := (aE K)) (f := true) (x := aa) rfl) dq (cU (bx (g := true) (ae (A := (aE K)) (f := true) (x := bw) rfl)))) (dP (f := true) (be (fC (eX (ae (A := (aE K)) (f := true) (x := s1) rfl) dq (cU (bx (g := true) (ae (A := (aE K)) (f := true) (x := dj) rfl)))) (eX (dP (f := true) (be bE (be bE (da (α := Str))))) dq (cU (cp (cE (ae (A := (aE K)) (f := true) (x := af) rfl) aq) aq)))) (da (α := (List Str)))))) (kM (ae (A := (aE K)) (f := true) (x := aa) rfl) (cU (bx (g := true) (ae (A := (aE K)) (f := true) (x := bw) rfl))) dq))) (cr (s := ()) (.cons .same (.cons .same (.cons .same (.cons .same (.cons .same (.cons .drop (.cons .drop .nil)))))))) (fun s4 => (eN (B1 := fun (s5 : Unit) => [sl true ((aE K) aa), sl true ((aE K) af), sl true ((aE K) bw), sl true ((aE K) s1), sl true ((aE K) dj), .no, .no]) (cS (jv (cp (cE (ae (A := (aE K)) (f := true) (x := af) rfl) aq) aq) aq)) (ck (fC (fC (kM (ae (A := (aE K)) (f := true) (x := aa) rfl) dq (cU (bx (g := true) (ae (A := (aE K)) (f := true) (x := bw) rfl)))) (dP (f := true) (be (dP (f := true) (be bE (be (Bg bE (dW aq (cp (cE (ae (A := (aE K)) (f := true) (x := af) rfl) aq) aq))) (da (α := Str))))) (da (α := (List Str)))))) (kM (ae (A := (aE K)) (f := true) (x := aa) rfl) (cU (bx (g := true) (ae (A := (aE K)) (f := true) (x := bw) rfl))) dq))) (cr (s := ()) (.cons .same (.cons .same (.cons .same (.cons .same (.cons .same (.cons .drop (.cons .drop .nil)))))))) (fun s5 => (ck (fC (ae (A := (aE K)) (f := true) (x := aa) rfl) (iy (vs := [6]) (gd (ae (A := (aE K)) (f := true) (x := aa) rfl)) (fun x6 => cL) (fun x6 => eM) (fun x6 => (fC (dP (f := true) (be bE (da (α := Str)))) (eX (ae (A := (aE K)) (f := true) (x := x6) rfl) dq (cU aq)))))))))))))))))))))))) h
theorem s_ (F : FnP K "_law_name" "_law_name" gD f fd) (T : Txt K mg) : FnOk P w K mg base CX0 1 f fd ["_law_number"] (spF (sp1 (aE K) (aE K) ef)) := by
  refine d_ F jf (fun As R h => by obtain ⟨bd, c, rfl, _⟩ := h; rfl) (fun cdv A outer s H E hr => ?_)
  refine ⟨_, (pss_cons (ps_set (i := 1) jf.nd rfl (by first | exact Or.inl rfl | exact Or.inr rfl) pe_str)
    (pss_cons (ps_ret (sT (K := K) rfl pe_str (pe_lc (own := [("_law_k", 2)]) (g := (gName 2)) (by rfl) jf.nd (pi_range1 (by rfl) T.b_range (pa_cons (pe_op op_add pe_int (pe_op op_mod (pv 0) pe_int)) pa_nil)) (blkOk_by (own := [("_law_k", 2)]) (N := ["_law_number", "_law_letters", "_law_k"]) (sc := defScope gD) (by decide +kernel)) (fun _ _ _ _ _ => (pg_name (i := 2) jf.nd rfl (by first | exact Or.inl rfl | exact Or.inr rfl))) (fun _ _ _ _ _ => pts_nil) (fun _ _ _ _ _ => (pe_ix ix_str (pv 1) (pe_op op_mod (pe_op op_add (pe_op op_fdiv (pv 0) pe_int) (pe_op op_mul (pv 2) (pe_op op_mod (pe_op op_fdiv (pv 0) pe_int) pe_int))) pe_int) (fun _ _ => rfl)))))) pss_nil)), fun H0 As R hS => ?_⟩
  obtain ⟨bd, c, rfl, h, rfl⟩ := hS
  exact du (B := fun (_ : Unit) => [.no, .no, .no]) (show DB ⟨C0.W, K⟩ H0 [sl false ((aE K) bd), .no, .no] _ (aE K) _ _ from (cV (i := 1) (f := true) (Ax := (aE K)) bE (fun eP => (ck (vY bE (iy (vs := [2]) (fh (dW aq (cp (bx (g := true) (ae (A := (aE K)) (f := false) (x := bd) rfl)) aq))) (fun x1 => cL) (fun x1 => eM) (fun x1 => (zc (bx (g := true) (ae (A := (aE K)) (f := true) (x := eP) rfl)) (cp (dW (jw (bx (g := true) (ae (A := (aE K)) (f := false) (x := bd) rfl)) aq) (iC (bx (g := true) (ae (A := (aE K)) (f := true) (x := x1) rfl)) (cp (jw (bx (g := true) (ae (A := (aE K)) (f := false) (x := bd) rfl)) aq) aq))) aq))))))))) h
theorem ng (F : FnP K "_law_why_shelf" "_law_why_shelf" eE f fd) (T : Txt K mg)
    (D_Hall_shelve_x : oJ P w K mg base (b9 K) "shelve" 6 ["self", "name", "verses"] ( (ri K (b9 K) (fun n : Str => aE K n) (fun r : List (List Str) => aE K r) bP))) : FnOk P w K mg base CX0 7 f fd ["_law_hall", "_law_name_here", "_law_verses"] (xC K (b9 K) (fun n : Str => aE K n) (fun r : List (List Str) => aE K r) (fun z : P3 Str Int Int => aE K z) cv) := by
  refine AF F dc rfl (fun cdv A outer s H E hr => ?_)
  refine ⟨_, (pss_cons (ps_set (i := 3) dc.nd rfl (by first | exact Or.inl rfl | exact Or.inr rfl) (pe_tup (pa_cons pe_str (pa_cons pe_int (pa_cons pe_int pa_nil)))))
    (pss_cons (xQ rfl rfl xu (fun _ _ _ tk _ => pss_cons (ps_expr (xT (pv 0) D_Hall_shelve_x (hr.mono (by decide)) tk (pa_cons (pv 1) (pa_cons (pv 2) pa_nil)))) pss_nil) (.cons ⟨by rfl, by decide, .inl T.g_BadBook⟩ (fun _ _ _ _ _ _ _ => (pss_cons (ps_set (i := 3) dc.nd rfl (by first | exact Or.inl rfl | exact Or.inr rfl) (pe_tup (pa_cons pe_str (pa_cons pe_int (pa_cons pe_int pa_nil))))) pss_nil))
    (.as (i := 4) dc.nd rfl (by rfl) ⟨by rfl, by decide, .inl T.g_BadVerse⟩ (fun a oe cls d pn hz hd => (pss_cons (ps_set (i := 3) dc.nd rfl (by first | exact Or.inl rfl | exact Or.inr rfl) (pe_tup (pa_cons pe_str (pa_cons (pe_xf T.x_BadVerse.x (T.x_BadVerse.n "row" (by simp)) hz hd (pv 4)) (pa_cons pe_int pa_nil))))) pss_nil))
    (.as (i := 4) dc.nd rfl (by rfl) ⟨by rfl, by decide, .inl T.g_Alike⟩ (fun a oe cls d pn hz hd => (pss_cons (ps_set (i := 3) dc.nd rfl (by first | exact Or.inl rfl | exact Or.inr rfl) (pe_tup (pa_cons pe_str (pa_cons (pe_xf T.x_Alike.x (T.x_Alike.n "one" (by simp)) hz hd (pv 4)) (pa_cons (pe_xf T.x_Alike.x (T.x_Alike.n "other" (by simp)) hz hd (pv 4)) pa_nil))))) pss_nil))
    (.cons ⟨by rfl, by decide, .inl T.g_SnatchError⟩ (fun _ _ _ _ _ _ _ => (pss_cons (ps_set (i := 3) dc.nd rfl (by first | exact Or.inl rfl | exact Or.inr rfl) (pe_tup (pa_cons pe_str (pa_cons pe_int (pa_cons pe_int pa_nil))))) pss_nil)) .nil)))))
    (pss_cons (ps_ret (pv 3)) pss_nil))), fun cG bO aa h' r hS => ?_⟩
  unfold cv at hS
  obtain ⟨o, hs, hS⟩ := nZ hS
  cases o with
  | ex e =>
    obtain ⟨r', e1, e2⟩ := Option.map_eq_some_iff.mp hS
    cases e2
    refine .inl ⟨rfl, fun H0 => ?_⟩
    exact du (K := K) (c := r) (A := fun r : P3 Str Int Int => aE K r) (B := fun (_ : Unit) => [.no, .no, .no, .no, .no]) (show DB ⟨C0.W, K⟩ H0 [(sl false ((b8 K (b9 K)) cG)), (sl false ((aE K) bO)), (sl false ((aE K) aa)), .no, .no] _ (aE K) _ _ from (cV (i := 3) (f := true) (Ax := (aE K)) (hV bE aq aq) (fun cJ => (By (lx := lxn) (lc := lxc) (s0 := cJ) (B1 := fun (s1 : P3 Str Int Int) => [(sl false ((b8 K (b9 K)) cG)), (sl false ((aE K) bO)), (sl false ((aE K) aa)), sl true ((aE K) s1), .no]) T.x_exm rfl (fun _ => (yQ (f' := true) (Ax := fun _ : Unit => aE K ()) (ae (A := (b8 K (b9 K))) (f := false) (x := cG) rfl) (ae (A := (aE K)) (f := false) (x := bO) rfl) (ae (A := (aE K)) (f := false) (x := aa) rfl) rfl rfl rfl hs (fun _ _ _ => rfl))) (.cons .same (.cons .same (.cons .same (.cons .same (.cons .drop .nil))))) (.cons (c := "BadBook") (by decide) (cV (i := 3) (f := true) (Ax := (aE K)) (hV bE aq aq) (fun cJ => (cr (s := cJ) (.cons .same (.cons .same (.cons .same (.cons .same (.cons .drop .nil)))))))) (.as (c := "BadVerse") (i := 4) (by decide) (by decide) (kB rfl) (fun _ => ⟨rfl, rfl⟩) (fun e a pd cls d hc hd => (cV (i := 3) (f := true) (Ax := (aE K)) (hV bE (uO (C := He.ga K "BadVerse") (i := 4) rfl hc hd) aq) (fun cJ => (cr (s := cJ) (.cons .same (.cons .same (.cons .same (.cons .same (.cons .drop .nil))))))))) (fun e fl h z => by obtain ⟨en, fs⟩ := e; have z : fs = [] := z; subst z; cases (show none = some fl from h)) (.as (c := "Alike") (i := 4) (by decide) (by decide) (kB rfl) (fun _ => ⟨rfl, rfl⟩) (fun e a pd cls d hc hd => (cV (i := 3) (f := true) (Ax := (aE K)) (hV bE (uO (C := He.ga K "Alike") (i := 4) rfl hc hd) (uO (C := He.ga K "Alike") (i := 4) rfl hc hd)) (fun cJ => (cr (s := cJ) (.cons .same (.cons .same (.cons .same (.cons .same (.cons .drop .nil))))))))) (fun e fl h z => by obtain ⟨en, fs⟩ := e; have z : fs = [] := z; subst z; cases (show none = some fl from h)) (.cons (c := "SnatchError") (by decide) (cV (i := 3) (f := true) (Ax := (aE K)) (hV bE aq aq) (fun cJ => (cr (s := cJ) (.cons .same (.cons .same (.cons .same (.cons .same (.cons .drop .nil)))))))) .nil)))) (fun s1 => (ck (ae (A := (aE K)) (f := true) (x := s1) rfl))))))) e1
  | ok h2 =>
    obtain ⟨rfl, rfl⟩ := Prod.mk.inj (Option.some.inj hS)
    refine .inr fun H0 v0 => ?_
    refine du (K := K) (c := ⟨"", 0, 0⟩) (A := fun r : P3 Str Int Int => aHW K (b9 K) v0 h2 (aE K r)) (B := fun (_ : Unit) => [.no, .no, .no, .no, .no]) (cV (i := 3) (f := true) (Ax := (aE K)) (hV bE aq aq) (fun cJ => (BA (Ah := vK K (b9 K) v0) (i := 0) AD rfl (ae (A := (aE K)) (f := false) (x := bO) rfl) (ae (A := (aE K)) (f := false) (x := aa) rfl) rfl rfl hs (fun _ _ _ => rfl) (BC (i := 0) rfl (ae (A := (aE K)) (f := true) (x := cJ) rfl))))) ?_
    rfl
theorem CR (F : FnP K "law" "law" sS f fd) (T : Txt K mg)
    (D_law_numbers : cf P w K mg base "_law_numbers" 1 ["_law_script", "_law_many"] (spF (sp2 (aE K) (aE K) (aE K) fL)))
    (D_law_same : cf P w K mg base "_law_same" 9 ["_law_found", "_law_due"] (spF (jy K 9)))
    (D_law_book : cf P w K mg base "_law_book" 3 ["_law_d", "_law_most"] (spF (sp2 (aE K) (aE K) (aE K) gL)))
    (D_law_copy : cf P w K mg base "_law_copy" 1 ["_law_rows"] (spF (sp1 (aE K) (aE K) gc)))
    (D_Hall___init__ : BP P w K mg base "Hall" (b9 K) 1 ["self"] (l3 K (b9 K)))
    (D_Hall_shelve : fP P w K mg base (b9 K) "shelve" 6 ["self", "name", "verses"] ( (wm K (b9 K) (fun n : Str => aE K n) (fun r : List (List Str) => aE K r) bP)))
    (D_Hall_books : fP P w K mg base (b9 K) "books" 2 ["self"] (spF (sp1 (b8 K (b9 K)) (aE K) dm)))
    (D_Hall_deeds : fP P w K mg base (b9 K) "deeds" 3 ["self"] (spR (sp1 (b8 K (b9 K)) (aE K) dV)))
    (D_Hall_book : fP P w K mg base (b9 K) "book" 2 ["self", "name"] (spR (sp2 (b8 K (b9 K)) (aE K) (bV K) fu)))
    (D_law_book_told : cf P w K mg base "_law_book_told" 10 ["_law_book_here", "_law_verses"] (spF (sp2 (bV K) (aE K) (aE K) cW)))
    (D_law_book_bad : cf P w K mg base "_law_book_bad" 2 ["_law_verses"] (spF (sp1 (aE K) (aE K) eg)))
    (D_law_spoilt_book : cf P w K mg base "_law_spoilt_book" 1 ["_law_verses", "_law_d"] (spR (sp2 (aE K) (aE K) (aE K) dJ)))
    (D_law_name : cf P w K mg base "_law_name" 1 ["_law_number"] (spF (sp1 (aE K) (aE K) ef)))
    (D_law_why_shelf : cf P w K mg base "_law_why_shelf" 7 ["_law_hall", "_law_name_here", "_law_verses"] ( (xC K (b9 K) (fun n : Str => aE K n) (fun r : List (List Str) => aE K r) (fun z : P3 Str Int Int => aE K z) cv))) (hL : ∀ ns : List Int, ns.length ≤ 63 → vN ns = some true) : FnOk P w K mg base CX0 11 f fd ["_law_script"] (spL K) := by
  refine At F iz hL (fun cdv A outer s H E hr => ?_)
  refine ⟨_, (pss_cons (ps_set (i := 1) iz.nd rfl (by first | exact Or.inl rfl | exact Or.inr rfl) (bT D_law_numbers (hr.mono (by decide)) (by rfl) (pa_cons (pv 0) (pa_cons pe_int pa_nil))))
    (pss_cons (ps_set (i := 2) iz.nd rfl (by first | exact Or.inl rfl | exact Or.inr rfl) (bT D_law_book (hr.mono (by decide)) (by rfl) (pa_cons (pe_slice (cc (K := K) rfl) (pv 1) (po_some pe_int) po_none) (pa_cons (pe_ix (bt (K := K) rfl) (pe_lst (pa_cons pe_int (pa_cons pe_int (pa_cons pe_int pa_nil)))) (pe_op op_mod (pe_ix (bt (K := K) rfl) (pv 1) pe_int (fun _ _ => rfl)) pe_int) (fun _ _ => rfl)) pa_nil))))
    (pss_cons (ps_for PassesOwn.never rfl (pi_range1 (by rfl) T.b_range (pa_cons (pe_op op_mod (pe_ix (bt (K := K) rfl) (pv 1) pe_int (fun _ _ => rfl)) pe_int) pa_nil)) (pg_name (i := 3) iz.nd rfl (by first | exact Or.inl rfl | exact Or.inr rfl)) (pss_cons (ps_set (i := 2) iz.nd rfl (by first | exact Or.inl rfl | exact Or.inr rfl) (bT D_law_spoilt_book (hr.mono (by decide)) (by rfl) (pa_cons (pv 2) (pa_cons (pe_slice (cc (K := K) rfl) (pv 1) (po_some (pe_op op_add pe_int (pe_op op_mul pe_int (pv 3)))) po_none) pa_nil))))
    pss_nil))
    (pss_cons (ps_if (pt_cmpR op_eq (pe_op op_mod (pe_ix (bt (K := K) rfl) (pv 1) pe_int (fun _ _ => rfl)) pe_int) pe_int (nomark _)) (pss_cons (ps_set (i := 2) iz.nd rfl (by first | exact Or.inl rfl | exact Or.inr rfl) (pe_lst pa_nil))
    pss_nil) pss_nil)
    (pss_cons (ps_set (i := 4) iz.nd rfl (by first | exact Or.inl rfl | exact Or.inr rfl) (z_ D_Hall___init__ (hr.mono (by decide)) (by rfl)))
    (pss_cons (ps_set (i := 5) iz.nd rfl (by first | exact Or.inl rfl | exact Or.inr rfl) (pe_slice (cc (K := K) rfl) (pe_lst (pa_cons (bT D_law_name (hr.mono (by decide)) (by rfl) (pa_cons (pe_ix (bt (K := K) rfl) (pv 1) pe_int (fun _ _ => rfl)) pa_nil)) pa_nil)) po_none (po_some (pe_op op_mod (pe_ix (bt (K := K) rfl) (pv 1) pe_int (fun _ _ => rfl)) pe_int))))
    (pss_cons (ps_for PassesOwn.never rfl (f8 (K := K) rfl (pv 5)) (pg_name (i := 6) iz.nd rfl (by first | exact Or.inl rfl | exact Or.inr rfl)) (pss_cons (ps_expr (o3 (pv 4) D_Hall_shelve (hr.mono (by decide)) (pa_cons (pv 6) (pa_cons (pe_lst (pa_cons (pe_lst (pa_cons pe_str pa_nil)) pa_nil)) pa_nil))))
    pss_nil))
    (pss_cons (ps_set (i := 6) iz.nd rfl (by first | exact Or.inl rfl | exact Or.inr rfl) (bT D_law_name (hr.mono (by decide)) (by rfl) (pa_cons (pe_ix (bt (K := K) rfl) (pv 1) pe_int (fun _ _ => rfl)) pa_nil)))
    (pss_cons (ps_if (pt_cmpR (Ab (K := K) rfl hr.units) (pv 6) (pv 5) (by rfl)) (pss_cons (ps_ret pe_bl) pss_nil) pss_nil)
    (pss_cons (ps_set (i := 7) iz.nd rfl (by first | exact Or.inl rfl | exact Or.inr rfl) (bT D_law_copy (hr.mono (by decide)) (by rfl) (pa_cons (pv 2) pa_nil)))
    (pss_cons (ps_set (i := 8) iz.nd rfl (by first | exact Or.inl rfl | exact Or.inr rfl) (bT D_law_book_bad (hr.mono (by decide)) (by rfl) (pa_cons (pv 2) pa_nil)))
    (pss_cons (ps_if (PW.pt (pw_or (pt_not (pt_val (bT D_law_same (hr.mono (by decide)) (by rfl) (pa_cons (bT D_law_why_shelf (hr.mono (by decide)) (by rfl) (pa_cons (pv 4) (pa_cons (pv 6) (pa_cons (pv 7) pa_nil)))) (pa_cons (pv 8) pa_nil))))) (pw_or1 (pt_cmpR (vy (K := K) rfl hr.units) (pv 7) (pv 2) (nomark _))))) (pss_cons (ps_ret pe_bl) pss_nil) pss_nil)
    (pss_cons (ps_if (pt_cmpR op_ne (pe_ix (rK (K := K) rfl) (pv 8) pe_int (fun _ _ => rfl)) pe_str (nomark _)) (pss_cons (ps_ret (pe_and (pe_cmpR (oy (K := K) rfl hr.units) (iP (pv 4) D_Hall_books (hr.mono (by decide))) (pv 5) (nomark _)) (pe_one (pe_cmpR op_eq (pe_callB (b_ (K := K) rfl) (by rfl) T.b_len (by decide +kernel) (pa_cons (iP (pv 4) D_Hall_deeds (hr.mono (by decide))) pa_nil)) (pe_callB (b_ (K := K) rfl) (by rfl) T.b_len (by decide +kernel) (pa_cons (pv 5) pa_nil)) (nomark _))))) pss_nil) pss_nil)
    (pss_cons (ps_ret (pe_and (pe_cmpR (oy (K := K) rfl hr.units) (iP (pv 4) D_Hall_books (hr.mono (by decide))) (pe_op (dU (K := K) rfl) (pv 5) (pe_lst (pa_cons (pv 6) pa_nil))) (nomark _)) (pe_one (bT D_law_book_told (hr.mono (by decide)) (by rfl) (pa_cons (o3 (pv 4) D_Hall_book (hr.mono (by decide)) (pa_cons (pv 6) pa_nil)) (pa_cons (pv 2) pa_nil)))))) pss_nil)))))))))))))), fun H0 As R hS => ?_⟩
  obtain ⟨bU, c, rfl, h, rfl⟩ := hS
  exact du (B := fun (_ : Unit) => [.no, .no, .no, .no, .no, .no, .no, .no, .no]) (show DB ⟨C0.W, K⟩ H0 [sl false ((aE K) bU), .no, .no, .no, .no, .no, .no, .no, .no] _ (aE K) _ _ from (cV (i := 1) (f := true) (Ax := (aE K)) (gr cO (ae (A := (aE K)) (f := false) (x := bU) rfl) aq) (fun a8 => (cV (i := 2) (f := true) (Ax := (aE K)) (gr cO (eX (ae (A := (aE K)) (f := true) (x := a8) rfl) (cU aq) dq) (cE (dP (f := true) (be aq (be aq (be aq (da (α := Int)))))) (cp (cE (ae (A := (aE K)) (f := true) (x := a8) rfl) aq) aq))) (fun aa => (il (vs := [3]) (B1 := fun (s1 : (List (List Str))) => [sl false ((aE K) bU), sl true ((aE K) a8), sl true ((aE K) s1), .no, .no, .no, .no, .no, .no]) (s0 := aa) (fh (cp (cE (ae (A := (aE K)) (f := true) (x := a8) rfl) aq) aq)) (.cons .same (.cons .same (.cons .same (.cons .drop (.cons .drop (.cons .drop (.cons .drop (.cons .drop (.cons .drop .nil))))))))) (fun x2 s1 => cL) (fun x2 s1 => (cV (i := 2) (f := true) (Ax := (aE K)) (q7 (ae (A := (aE K)) (f := true) (x := s1) rfl) (eX (ae (A := (aE K)) (f := true) (x := a8) rfl) (cU (dW aq (iC aq (bx (g := true) (ae (A := (aE K)) (f := true) (x := x2) rfl))))) dq)) (fun aa => (cr (s := aa) (.cons .same (.cons .same (.cons .same (.cons .drop (.cons .drop (.cons .drop (.cons .drop (.cons .drop (.cons .drop .nil))))))))))))) (fun s1 => (eN (B1 := fun (s3 : (List (List Str))) => [sl false ((aE K) bU), sl true ((aE K) a8), sl true ((aE K) s3), .no, .no, .no, .no, .no, .no]) (cS (jv (cp (cE (ae (A := (aE K)) (f := true) (x := a8) rfl) aq) aq) aq)) (cV (i := 2) (f := true) (Ax := (aE K)) (dP (f := true) (da (α := (List Str)))) (fun aa => (cr (s := aa) (.cons .same (.cons .same (.cons .same (.cons .drop (.cons .drop (.cons .drop (.cons .drop (.cons .drop (.cons .drop .nil)))))))))))) (cr (s := s1) (.cons .same (.cons .same (.cons .same (.cons .drop (.cons .drop (.cons .drop (.cons .drop (.cons .drop (.cons .drop .nil)))))))))) (fun s3 => (BB (i := 4) (wZ (K := K)) (fun cG => (cV (i := 5) (f := true) (Ax := (aE K)) (eX (dP (f := true) (be (fF cO (cE (ae (A := (aE K)) (f := true) (x := a8) rfl) aq)) (da (α := Str)))) dq (cU (cp (cE (ae (A := (aE K)) (f := true) (x := a8) rfl) aq) aq))) (fun cP => (il (vs := [6]) (B1 := fun (s4 : HallT) => [sl false ((aE K) bU), sl true ((aE K) a8), sl true ((aE K) s3), .no, .reg ((b8 K (b9 K)) s4), sl true ((aE K) cP), .no, .no, .no]) (s0 := cG) (gd (ae (A := (aE K)) (f := true) (x := cP) rfl)) (.cons .same (.cons .same (.cons .same (.cons .drop (.cons .same (.cons .same (.cons .drop (.cons .drop (.cons .drop .nil))))))))) (fun x5 s4 => cL) (fun x5 s4 => (zz (i := 4) (h := s4) rfl (bx (g := true) (ae (A := (aE K)) (f := true) (x := x5) rfl)) (dP (f := true) (be (dP (f := true) (be bE (da (α := Str)))) (da (α := (List Str))))) (fun _ _ _ => rfl) (fun cG => (cr (s := cG) (.cons .same (.cons .same (.cons .same (.cons .drop (.cons .same (.cons .same (.cons .drop (.cons .drop (.cons .drop .nil))))))))))))) (fun s4 => (cV (i := 6) (f := true) (Ax := (aE K)) (fF cO (cE (ae (A := (aE K)) (f := true) (x := a8) rfl) aq)) (fun bO => (eN (B1 := fun (s6 : Unit) => [sl false ((aE K) bU), sl true ((aE K) a8), sl true ((aE K) s3), .no, .reg ((b8 K (b9 K)) s4), sl true ((aE K) cP), sl true ((aE K) bO), .no, .no]) (cS (FN (bx (g := true) (ae (A := (aE K)) (f := true) (x := bO) rfl)) (ae (A := (aE K)) (f := true) (x := cP) rfl) (by decide))) (ck q8) (cr (s := ()) (.cons .same (.cons .same (.cons .same (.cons .drop (.cons .same (.cons .same (.cons .same (.cons .drop (.cons .drop .nil)))))))))) (fun s6 => (cV (i := 7) (f := true) (Ax := (aE K)) (fF cO (ae (A := (aE K)) (f := true) (x := s3) rfl)) (fun dH => (cV (i := 8) (f := true) (Ax := (aE K)) (fF cO (ae (A := (aE K)) (f := true) (x := s3) rfl)) (fun fH => (Et (i := 4) (B1 := fun (s7 : HallT) => [sl false ((aE K) bU), sl true ((aE K) a8), sl true ((aE K) s3), .no, .reg ((b8 K (b9 K)) s7), sl true ((aE K) cP), sl true ((aE K) bO), sl true ((aE K) dH), sl true ((aE K) fH)]) (Dy (A8 (wY (i := 4) (h := s4) rfl (bx (g := true) (ae (A := (aE K)) (f := true) (x := bO) rfl)) (ae (A := (aE K)) (f := true) (x := dH) rfl) (fun cG => (ae (A := (aE K)) (f := true) (x := fH) rfl)))) (fun cG => (cS (yZ (ae (A := (aE K)) (f := true) (x := dH) rfl) (ae (A := (aE K)) (f := true) (x := s3) rfl) (by decide))))) (fun cG => (ck q8)) (fun cG => (cr (s := cG) (.cons .same (.cons .same (.cons .same (.cons .drop (.cons .same (.cons .same (.cons .same (.cons .same (.cons .same .nil))))))))))) (fun s7 => (eN (B1 := fun (s8 : Unit) => [sl false ((aE K) bU), sl true ((aE K) a8), sl true ((aE K) s3), .no, .reg ((b8 K (b9 K)) s7), sl true ((aE K) cP), sl true ((aE K) bO), sl true ((aE K) dH), sl true ((aE K) fH)]) (cS (DX (zb (ae (A := (aE K)) (f := true) (x := fH) rfl)) bE)) (ck (uT (zB (A := (b8 K (b9 K)) s7) (i := 4) rfl) (pU (sq (qY (ae (A := (b8 K (b9 K))) (f := true) (x := s7) rfl) (fun _ _ _ => rfl)) (ae (A := (aE K)) (f := true) (x := cP) rfl) (by decide)) (jv (eq (uR (ae (A := (b8 K (b9 K))) (f := true) (x := s7) rfl) (fun _ _ _ => rfl))) (eq (ae (A := (aE K)) (f := true) (x := cP) rfl)))))) (cr (s := ()) (.cons .same (.cons .same (.cons .same (.cons .drop (.cons .same (.cons .same (.cons .same (.cons .same (.cons .same .nil)))))))))) (fun s8 => (ck (uT (zB (A := (b8 K (b9 K)) s7) (i := 4) rfl) (pU (sq (qY (ae (A := (b8 K (b9 K))) (f := true) (x := s7) rfl) (fun _ _ _ => rfl)) (fC (ae (A := (aE K)) (f := true) (x := cP) rfl) (dP (f := true) (be (bx (g := true) (ae (A := (aE K)) (f := true) (x := bO) rfl)) (da (α := Str))))) (by decide)) (gr cO (uQ (ae (A := (b8 K (b9 K))) (f := true) (x := s7) rfl) (bx (g := true) (ae (A := (aE K)) (f := true) (x := bO) rfl)) (fun _ _ _ => rfl)) (ae (A := (aE K)) (f := true) (x := s3) rfl)))))))))))))))))))))))))))))))) h
end
end Kj

noncomputable section
namespace HandSHeadRun
open PySem PySem.W PySem.Calls PyProof.Rows
end HandSHeadRun
end

namespace Kj
open PySem PySem.Spec PyProof.Rows L2
theorem facts {P : Program} {w : World} {K : PySem.W.Frag} {h : Heap} {mg : Str → Option Value} {f : Addr} (X : K.In h) (G : h.Ns mainGlobals mg) (hfa : mg ("law" : Str) = some (.ref f)) (c : He.SaysD fa fn K) (cx : exK K = true) :
    ∃ fd : FuncData, (∀ (s : Shared) (v : Value), BindsTo s fd ⟨[v], []⟩ [("_law_script", v)]) ∧ ∀ base : Heap, K.In base → base.Ns mainGlobals mg → FnOk P w K mg base CX0 11 f fd ["_law_script"] (spL K) := by
  obtain ⟨fd_law_numbers, F_law_numbers⟩ := c.def_ 0 (d := lr) rfl
  have g_law_numbers := He.glo_ok X G (c.fact 5 (f := .glo "_law_numbers") rfl)
  obtain ⟨fd_law_same, F_law_same⟩ := c.def_ 1 (d := p4) rfl
  have g_law_same := He.glo_ok X G (c.fact 6 (f := .glo "_law_same") rfl)
  obtain ⟨fd_law_sound, F_law_sound⟩ := c.def_ 2 (d := nU) rfl
  have g_law_sound := He.glo_ok X G (c.fact 7 (f := .glo "_law_sound") rfl)
  obtain ⟨fd_law_pool, F_law_pool⟩ := c.def_ 3 (d := p5) rfl
  have g_law_pool := He.glo_ok X G (c.fact 8 (f := .glo "_law_pool") rfl)
  obtain ⟨fd_law_alike, F_law_alike⟩ := c.def_ 4 (d := nV) rfl
  have g_law_alike := He.glo_ok X G (c.fact 9 (f := .glo "_law_alike") rfl)
  obtain ⟨fd_law_verse, F_law_verse⟩ := c.def_ 5 (d := nT) rfl
  have g_law_verse := He.glo_ok X G (c.fact 10 (f := .glo "_law_verse") rfl)
  obtain ⟨fd_law_wide, F_law_wide⟩ := c.def_ 6 (d := pZ) rfl
  have g_law_wide := He.glo_ok X G (c.fact 11 (f := .glo "_law_wide") rfl)
  obtain ⟨fd_law_book, F_law_book⟩ := c.def_ 7 (d := p8) rfl
  have g_law_book := He.glo_ok X G (c.fact 12 (f := .glo "_law_book") rfl)
  obtain ⟨fd_law_copy, F_law_copy⟩ := c.def_ 8 (d := p7) rfl
  have g_law_copy := He.glo_ok X G (c.fact 13 (f := .glo "_law_copy") rfl)
  obtain ⟨fd_is_syllable, F_is_syllable⟩ := c.def_ 9 (d := lv) rfl
  have g_is_syllable := He.glo_ok X G (c.fact 14 (f := .glo "is_syllable") rfl)
  obtain ⟨fd_is_verse, F_is_verse⟩ := c.def_ 10 (d := p9) rfl
  have g_is_verse := He.glo_ok X G (c.fact 15 (f := .glo "is_verse") rfl)
  obtain ⟨fd_begins, F_begins⟩ := c.def_ 11 (d := t3) rfl
  have g_begins := He.glo_ok X G (c.fact 16 (f := .glo "begins") rfl)
  obtain ⟨fd_BadVerse___init__, F_BadVerse___init__⟩ := c.def_ 12 (d := iH) rfl
  obtain ⟨fd_Alike___init__, F_Alike___init__⟩ := c.def_ 13 (d := jM) rfl
  obtain ⟨fd_check_rows_x, F_check_rows_x⟩ := c.def_ 14 (d := kT) rfl
  have g_check_rows_x := He.glo_ok X G (c.fact 17 (f := .glo "check_rows") rfl)
  obtain ⟨fd_Book___init___x, F_Book___init___x⟩ := c.def_ 15 (d := jn) rfl
  obtain ⟨fd_Book_many, F_Book_many⟩ := c.def_ 16 (d := nY) rfl
  obtain ⟨fd_check_verse, F_check_verse⟩ := c.def_ 17 (d := lw) rfl
  have g_check_verse := He.glo_ok X G (c.fact 18 (f := .glo "check_verse") rfl)
  obtain ⟨fd_Book_verse, F_Book_verse⟩ := c.def_ 18 (d := mT) rfl
  obtain ⟨fd_Book_verses, F_Book_verses⟩ := c.def_ 19 (d := lz) rfl
  obtain ⟨fd_is_name, F_is_name⟩ := c.def_ 20 (d := ra) rfl
  have g_is_name := He.glo_ok X G (c.fact 19 (f := .glo "is_name") rfl)
  obtain ⟨fd_check_new, F_check_new⟩ := c.def_ 21 (d := nW) rfl
  have g_check_new := He.glo_ok X G (c.fact 20 (f := .glo "check_new") rfl)
  obtain ⟨fd_book_named, F_book_named⟩ := c.def_ 22 (d := mQ) rfl
  have g_book_named := He.glo_ok X G (c.fact 21 (f := .glo "book_named") rfl)
  obtain ⟨fd_new_lists, F_new_lists⟩ := c.def_ 23 (d := nS) rfl
  have g_new_lists := He.glo_ok X G (c.fact 22 (f := .glo "new_lists") rfl)
  obtain ⟨fd_new_deed, F_new_deed⟩ := c.def_ 24 (d := pY) rfl
  have g_new_deed := He.glo_ok X G (c.fact 23 (f := .glo "new_deed") rfl)
  obtain ⟨fd_standing, F_standing⟩ := c.def_ 25 (d := pX) rfl
  have g_standing := He.glo_ok X G (c.fact 24 (f := .glo "standing") rfl)
  obtain ⟨fd_note, F_note⟩ := c.def_ 26 (d := zA) rfl
  have g_note := He.glo_ok X G (c.fact 25 (f := .glo "note") rfl)
  obtain ⟨fd_Hall___init__, F_Hall___init__⟩ := c.def_ 27 (d := kd) rfl
  obtain ⟨fd_Hall_shelve, F_Hall_shelve⟩ := c.def_ 28 (d := ly) rfl
  obtain ⟨fd_Hall_books, F_Hall_books⟩ := c.def_ 29 (d := mS) rfl
  obtain ⟨fd_Hall_deeds, F_Hall_deeds⟩ := c.def_ 30 (d := mR) rfl
  obtain ⟨fd_Hall_book, F_Hall_book⟩ := c.def_ 31 (d := nX) rfl
  obtain ⟨fd_law_book_told, F_law_book_told⟩ := c.def_ 32 (d := kc) rfl
  have g_law_book_told := He.glo_ok X G (c.fact 26 (f := .glo "_law_book_told") rfl)
  obtain ⟨fd_law_is_line, F_law_is_line⟩ := c.def_ 33 (d := lu) rfl
  have g_law_is_line := He.glo_ok X G (c.fact 27 (f := .glo "_law_is_line") rfl)
  obtain ⟨fd_law_book_bad, F_law_book_bad⟩ := c.def_ 34 (d := kR) rfl
  have g_law_book_bad := He.glo_ok X G (c.fact 28 (f := .glo "_law_book_bad") rfl)
  obtain ⟨fd_law_spoilt_book, F_law_spoilt_book⟩ := c.def_ 35 (d := jm) rfl
  have g_law_spoilt_book := He.glo_ok X G (c.fact 29 (f := .glo "_law_spoilt_book") rfl)
  obtain ⟨fd_law_name, F_law_name⟩ := c.def_ 36 (d := p6) rfl
  have g_law_name := He.glo_ok X G (c.fact 30 (f := .glo "_law_name") rfl)
  obtain ⟨fd_law_why_shelf, F_law_why_shelf⟩ := c.def_ 37 (d := j_) rfl
  have g_law_why_shelf := He.glo_ok X G (c.fact 31 (f := .glo "_law_why_shelf") rfl)
  obtain ⟨fd_law, F_law⟩ := c.def_ 38 (d := Ck) rfl
  have e := hfa.symm.trans (He.glo_ok X G (c.fact 32 (f := .glo "law") rfl))
  cases e
  have T : Txt K mg := ⟨He.free_ok X G (c.fact 37 (f := .free "all") rfl), He.free_ok X G (c.fact 38 (f := .free "bool") rfl), He.free_ok X G (c.fact 39 (f := .free "enumerate") rfl), He.free_ok X G (c.fact 40 (f := .free "int") rfl), He.free_ok X G (c.fact 41 (f := .free "isinstance") rfl), He.free_ok X G (c.fact 42 (f := .free "len") rfl), He.free_ok X G (c.fact 43 (f := .free "list") rfl), He.free_ok X G (c.fact 44 (f := .free "max") rfl), He.free_ok X G (c.fact 45 (f := .free "min") rfl), He.free_ok X G (c.fact 46 (f := .free "range") rfl), He.free_ok X G (c.fact 47 (f := .free "str") rfl), He.free_ok X G (c.fact 48 (f := .free "tuple") rfl), He.free_ok X G (c.fact 49 (f := .free "zip") rfl), He.int_ok X G (c.fact 50 (f := .int "MOST_LETTERS_books" 3) rfl), He.int_ok X G (c.fact 51 (f := .int "MOST_LETTERS_hall" 8) rfl), He.int_ok X G (c.fact 52 (f := .int "MOST_NAMES" 8) rfl), He.int_ok X G (c.fact 53 (f := .int "MOST_SYLLABLES" 8) rfl), He.int_ok X G (c.fact 54 (f := .int "MOST_VERSES" 40) rfl), He.cls_ok (c.fact 55 (f := .cls "Book") rfl), He.cls_ok (c.fact 56 (f := .cls "Hall") rfl), He.noat_ok (c.fact 57 (f := .noat "Book" "lines") rfl), He.noat_ok (c.fact 58 (f := .noat "Hall" "done") rfl), He.noat_ok (c.fact 59 (f := .noat "Hall" "log") rfl), He.noat_ok (c.fact 60 (f := .noat "Hall" "stands") rfl), (have z := He.exc_ok (c.fact 4 (f := .exc "BadBook") rfl); ⟨He.glo_ok X G (c.fact 1 (f := .glo "BadBook") rfl), z.1, z.2.1, z.2.2.1, z.2.2.2⟩), He.glo_ok X G (c.fact 33 (f := .glo "Alike") rfl), He.glo_ok X G (c.fact 1 (f := .glo "BadBook") rfl), He.glo_ok X G (c.fact 34 (f := .glo "BadVerse") rfl), He.glo_ok X G (c.fact 3 (f := .glo "SnatchError") rfl), (And.left (Bool.and_eq_true_iff.mp cx)), vz (And.left (Bool.and_eq_true_iff.mp (And.right (Bool.and_eq_true_iff.mp cx)))), vz (And.right (Bool.and_eq_true_iff.mp (And.right (Bool.and_eq_true_iff.mp cx))))⟩
  have b := FunD.bindsA (ps := ["_law_script"]) F_law fun _ _ _ _ _ _ us hl => match us, hl with | [_], _ => rfl
  refine ⟨fd_law, fun s v => b s [v] rfl, fun base _ _ => ?_⟩
  have D_law_numbers : cf P w K mg base "_law_numbers" 1 ["_law_script", "_law_many"] (spF (sp2 (aE K) (aE K) (aE K) fL)) := fi (x := "_law_numbers") (qual := "_law_numbers") (st := fJ) F_law_numbers g_law_numbers (o5 F_law_numbers T ) fun _ _ _ _ _ _ us hl => match us, hl with | [_, _], _ => rfl
  have D_law_same : cf P w K mg base "_law_same" 9 ["_law_found", "_law_due"] (spF (jy K 9)) := fi (x := "_law_same") (qual := "_law_same") (st := f7) F_law_same g_law_same (nM F_law_same T g_law_same 9) fun _ _ _ _ _ _ us hl => match us, hl with | [_, _], _ => rfl
  have D_law_sound : cf P w K mg base "_law_sound" 1 ["_law_number"] (spF (sp1 (aE K) (aE K) f_)) := fi (x := "_law_sound") (qual := "_law_sound") (st := f6) F_law_sound g_law_sound (rC F_law_sound T ) fun _ _ _ _ _ _ us hl => match us, hl with | [_], _ => rfl
  have D_law_pool : cf P w K mg base "_law_pool" 2 ["_law_d"] (spF (sp1 (aE K) (aE K) ii)) := fi (x := "_law_pool") (qual := "_law_pool") (st := gC) F_law_pool g_law_pool (sZ F_law_pool T D_law_sound) fun _ _ _ _ _ _ us hl => match us, hl with | [_], _ => rfl
  have D_law_alike : cf P w K mg base "_law_alike" 1 ["_law_one", "_law_other"] (spF (sp2 (aE K) (aE K) (aE K) dY)) := fi (x := "_law_alike") (qual := "_law_alike") (st := gQ) F_law_alike g_law_alike (rD F_law_alike T ) fun _ _ _ _ _ _ us hl => match us, hl with | [_, _], _ => rfl
  have D_law_verse : cf P w K mg base "_law_verse" 1 ["_law_verses", "_law_pool_here", "_law_d"] (spF (sp3 (aE K) (aE K) (aE K) (aE K) gU)) := fi (x := "_law_verse") (qual := "_law_verse") (st := fZ) F_law_verse g_law_verse (rB F_law_verse T ) fun _ _ _ _ _ _ us hl => match us, hl with | [_, _, _], _ => rfl
  have D_law_wide : cf P w K mg base "_law_wide" 1 ["_law_d", "_law_size"] (spF (sp2 (aE K) (aE K) (aE K) gK)) := fi (x := "_law_wide") (qual := "_law_wide") (st := ib) F_law_wide g_law_wide (sY F_law_wide T ) fun _ _ _ _ _ _ us hl => match us, hl with | [_, _], _ => rfl
  have D_law_book : cf P w K mg base "_law_book" 3 ["_law_d", "_law_most"] (spF (sp2 (aE K) (aE K) (aE K) gL)) := fi (x := "_law_book") (qual := "_law_book") (st := gF) F_law_book g_law_book (tm F_law_book T D_law_pool D_law_alike D_law_verse D_law_wide) fun _ _ _ _ _ _ us hl => match us, hl with | [_, _], _ => rfl
  have D_law_copy : cf P w K mg base "_law_copy" 1 ["_law_rows"] (spF (sp1 (aE K) (aE K) gc)) := fi (x := "_law_copy") (qual := "_law_copy") (st := gE) F_law_copy g_law_copy (tj F_law_copy T ) fun _ _ _ _ _ _ us hl => match us, hl with | [_], _ => rfl
  have D_is_syllable : cf P w K mg base "is_syllable" 1 ["text"] (spF (sp1 (aE K) (aE K) fN)) := fi (x := "is_syllable") (qual := "is_syllable") (st := eS) F_is_syllable g_is_syllable (o7 F_is_syllable T ) fun _ _ _ _ _ _ us hl => match us, hl with | [_], _ => rfl
  have D_is_verse : cf P w K mg base "is_verse" 2 ["syllables"] (spF (sp1 (aE K) (aE K) gM)) := fi (x := "is_verse") (qual := "is_verse") (st := gH) F_is_verse g_is_verse (tn F_is_verse T D_is_syllable) fun _ _ _ _ _ _ us hl => match us, hl with | [_], _ => rfl
  have D_begins : cf P w K mg base "begins" 1 ["one", "other"] (spF (sp2 (aE K) (aE K) (aE K) eK)) := fi (x := "begins") (qual := "begins") (st := jB) F_begins g_begins (wH F_begins T ) fun _ _ _ _ _ _ us hl => match us, hl with | [_, _], _ => rfl
  have D_BadVerse___init__ : w9 P w K mg base "BadVerse" (He.ga K "BadVerse") 1 ["self", "row"] (xE (He.ga K "BadVerse") "row") := EL (x := "__init__") (qual := "BadVerse.__init__") (st := dv) F_BadVerse___init__ T.g_BadVerse T.x_BadVerse (kA F_BadVerse___init__ T ) fun _ _ _ _ _ _ us hl => match us, hl with | [_, _], _ => rfl
  have D_Alike___init__ : w9 P w K mg base "Alike" (He.ga K "Alike") 1 ["self", "one", "other"] (xD (He.ga K "Alike") "one" "other") := EL (x := "__init__") (qual := "Alike.__init__") (st := d6) F_Alike___init__ T.g_Alike T.x_Alike (l_ F_Alike___init__ T ) fun _ _ _ _ _ _ us hl => match us, hl with | [_, _, _], _ => rfl
  have D_check_rows_x : nJ P w K mg base "check_rows" 3 ["rows"] (spX (sx1 K (aE K) (aE K) eh)) := D2 (x := "check_rows") (qual := "check_rows") (st := d9) F_check_rows_x g_check_rows_x (n8 F_check_rows_x T D_is_verse D_begins D_BadVerse___init__ D_Alike___init__) fun _ _ _ _ _ _ us hl => match us, hl with | [_], _ => rfl
  have D_Book___init___x : ua P w K mg base "Book" (d5 K) 4 ["self", "verses"] (qf (ui K (aE K) (hZ K) c_) (d5 K)) := Fk (x := "__init__") (qual := "Book.__init__") (st := c9) F_Book___init___x (He.mkr_ok (c.fact 68 (f := .mkr "Book") rfl)) (He.glo_ok X G (c.fact 35 (f := .glo "Book") rfl)) (lL F_Book___init___x T D_check_rows_x) fun _ _ _ _ _ _ us hl => match us, hl with | [_, _], _ => rfl
  have D_Book_many : fP P w K mg base (d5 K) "many" 1 ["self"] (spF (sp1 (bV K) (aE K) dh)) := lM (x := "many") (qual := "Book.many") (st := gT) F_Book_many T.c_Book (He.meth_ok (c.fact 61 (f := .meth "Book" "many") rfl)) (rG F_Book_many T ) fun _ _ _ _ _ _ us hl => match us, hl with | [_], _ => rfl
  have D_check_verse : cf P w K mg base "check_verse" 2 ["book", "number"] (spF (sp2 (bV K) (aE K) (aE K) cA)) := fi (x := "check_verse") (qual := "check_verse") (st := fK) F_check_verse g_check_verse (o8 F_check_verse T D_Book_many) fun _ _ _ _ _ _ us hl => match us, hl with | [_, _], _ => rfl
  have D_Book_verse : fP P w K mg base (d5 K) "verse" 3 ["self", "number"] (spF (sp2 (bV K) (aE K) (aE K) bM)) := lM (x := "verse") (qual := "Book.verse") (st := gi) F_Book_verse T.c_Book (He.meth_ok (c.fact 62 (f := .meth "Book" "verse") rfl)) (qm F_Book_verse T D_check_verse) fun _ _ _ _ _ _ us hl => match us, hl with | [_, _], _ => rfl
  have D_Book_verses : fP P w K mg base (d5 K) "verses" 1 ["self"] (spF (sp1 (bV K) (aE K) fO)) := lM (x := "verses") (qual := "Book.verses") (st := eU) F_Book_verses T.c_Book (He.meth_ok (c.fact 63 (f := .meth "Book" "verses") rfl)) (o_ F_Book_verses T ) fun _ _ _ _ _ _ us hl => match us, hl with | [_], _ => rfl
  have D_is_name : cf P w K mg base "is_name" 1 ["text"] (spF (sp1 (aE K) (aE K) ij)) := fi (x := "is_name") (qual := "is_name") (st := ic) F_is_name g_is_name (ul F_is_name T ) fun _ _ _ _ _ _ us hl => match us, hl with | [_], _ => rfl
  have D_check_new : cf P w K mg base "check_new" 2 ["named", "name"] (spF (sp2 (aDs (bV K)) (aE K) (aE K) fq)) := fi (x := "check_new") (qual := "check_new") (st := gR) F_check_new g_check_new (rE F_check_new T D_is_name) fun _ _ _ _ _ _ us hl => match us, hl with | [_, _], _ => rfl
  have D_book_named : cf P w K mg base "book_named" 1 ["shelf", "name"] (spR (sp2 (aDs (bV K)) (aE K) (bV K) eJ)) := fi (x := "book_named") (qual := "book_named") (st := gg) F_book_named g_book_named (qj F_book_named T ) fun _ _ _ _ _ _ us hl => match us, hl with | [_, _], _ => rfl
  have D_new_lists : cf P w K mg base "new_lists" 1 ["rows"] (spF (sp1 (aE K) (aE K) df)) := fi (x := "new_lists") (qual := "new_lists") (st := fY) F_new_lists g_new_lists (rA F_new_lists T ) fun _ _ _ _ _ _ us hl => match us, hl with | [_], _ => rfl
  have D_new_deed : cf P w K mg base "new_deed" 2 ["deed"] (spR (sp1 (aE K) (aE K) eV)) := fi (x := "new_deed") (qual := "new_deed") (st := gB) F_new_deed g_new_deed (sX F_new_deed T D_new_lists) fun _ _ _ _ _ _ us hl => match us, hl with | [_], _ => rfl
  have D_standing : cf P w K mg base "standing" 1 ["hall"] ( (ip (b9 K))) := fi (x := "standing") (qual := "standing") (st := ia) F_standing g_standing (sW F_standing T ) fun _ _ _ _ _ _ us hl => match us, hl with | [_], _ => rfl
  have D_note : cf P w K mg base "note" 1 ["hall", "deed", "shelf", "tables"] ( (m8 (b9 K))) := fi (x := "note") (qual := "note") (st := m_) F_note g_note (Ad F_note T ) fun _ _ _ _ _ _ us hl => match us, hl with | [_, _, _, _], _ => rfl
  have D_Hall___init__ : BP P w K mg base "Hall" (b9 K) 1 ["self"] (l3 K (b9 K)) := GF (x := "__init__") (qual := "Hall.__init__") (st := eF) F_Hall___init__ (He.mkr_ok (c.fact 69 (f := .mkr "Hall") rfl)) (He.glo_ok X G (c.fact 36 (f := .glo "Hall") rfl)) (ni F_Hall___init__ T ) fun _ _ _ _ _ _ us hl => match us, hl with | [_], _ => rfl
  have D_Hall_shelve_x : oJ P w K mg base (b9 K) "shelve" 6 ["self", "name", "verses"] ( (ri K (b9 K) (fun n : Str => aE K n) (fun r : List (List Str) => aE K r) bP)) := Ak (x := "shelve") (qual := "Hall.shelve") (st := gw) F_Hall_shelve T.c_Hall (He.meth_ok (c.fact 64 (f := .meth "Hall" "shelve") rfl)) (jD F_Hall_shelve T D_Book___init___x D_check_new D_new_lists D_standing D_note) fun _ _ _ _ _ _ us hl => match us, hl with | [_, _, _], _ => rfl
  have D_Hall_shelve : fP P w K mg base (b9 K) "shelve" 6 ["self", "name", "verses"] ( (wm K (b9 K) (fun n : Str => aE K n) (fun r : List (List Str) => aE K r) bP)) := lM (x := "shelve") (qual := "Hall.shelve") (st := eT) F_Hall_shelve T.c_Hall (He.meth_ok (c.fact 64 (f := .meth "Hall" "shelve") rfl)) (o9 F_Hall_shelve T D_Book___init___x D_check_new D_new_lists D_standing D_note) fun _ _ _ _ _ _ us hl => match us, hl with | [_, _, _], _ => rfl
  have D_Hall_books : fP P w K mg base (b9 K) "books" 2 ["self"] (spF (sp1 (b8 K (b9 K)) (aE K) dm)) := lM (x := "books") (qual := "Hall.books") (st := gh) F_Hall_books T.c_Hall (He.meth_ok (c.fact 65 (f := .meth "Hall" "books") rfl)) (ql F_Hall_books T D_standing) fun _ _ _ _ _ _ us hl => match us, hl with | [_], _ => rfl
  have D_Hall_deeds : fP P w K mg base (b9 K) "deeds" 3 ["self"] (spR (sp1 (b8 K (b9 K)) (aE K) dV)) := lM (x := "deeds") (qual := "Hall.deeds") (st := fA) F_Hall_deeds T.c_Hall (He.meth_ok (c.fact 66 (f := .meth "Hall" "deeds") rfl)) (qk F_Hall_deeds T D_new_deed) fun _ _ _ _ _ _ us hl => match us, hl with | [_], _ => rfl
  have D_Hall_book : fP P w K mg base (b9 K) "book" 2 ["self", "name"] (spR (sp2 (b8 K (b9 K)) (aE K) (bV K) fu)) := lM (x := "book") (qual := "Hall.book") (st := gS) F_Hall_book T.c_Hall (He.meth_ok (c.fact 67 (f := .meth "Hall" "book") rfl)) (rF F_Hall_book T D_book_named D_standing) fun _ _ _ _ _ _ us hl => match us, hl with | [_, _], _ => rfl
  have D_law_book_told : cf P w K mg base "_law_book_told" 10 ["_law_book_here", "_law_verses"] (spF (sp2 (bV K) (aE K) (aE K) cW)) := fi (x := "_law_book_told") (qual := "_law_book_told") (st := dN) F_law_book_told g_law_book_told (nh F_law_book_told T D_law_same D_Book_many D_Book_verse D_Book_verses) fun _ _ _ _ _ _ us hl => match us, hl with | [_, _], _ => rfl
  have D_law_is_line : cf P w K mg base "_law_is_line" 1 ["_law_line"] (spF (sp1 (aE K) (aE K) fM)) := fi (x := "_law_is_line") (qual := "_law_is_line") (st := eR) F_law_is_line g_law_is_line (o6 F_law_is_line T ) fun _ _ _ _ _ _ us hl => match us, hl with | [_], _ => rfl
  have D_law_book_bad : cf P w K mg base "_law_book_bad" 2 ["_law_verses"] (spF (sp1 (aE K) (aE K) eg)) := fi (x := "_law_book_bad") (qual := "_law_book_bad") (st := fg) F_law_book_bad g_law_book_bad (n0 F_law_book_bad T D_law_alike D_law_is_line) fun _ _ _ _ _ _ us hl => match us, hl with | [_], _ => rfl
  have D_law_spoilt_book : cf P w K mg base "_law_spoilt_book" 1 ["_law_verses", "_law_d"] (spR (sp2 (aE K) (aE K) (aE K) dJ)) := fi (x := "_law_spoilt_book") (qual := "_law_spoilt_book") (st := dl) F_law_spoilt_book g_law_spoilt_book (lK F_law_spoilt_book T ) fun _ _ _ _ _ _ us hl => match us, hl with | [_, _], _ => rfl
  have D_law_name : cf P w K mg base "_law_name" 1 ["_law_number"] (spF (sp1 (aE K) (aE K) ef)) := fi (x := "_law_name") (qual := "_law_name") (st := gD) F_law_name g_law_name (s_ F_law_name T ) fun _ _ _ _ _ _ us hl => match us, hl with | [_], _ => rfl
  have D_law_why_shelf : cf P w K mg base "_law_why_shelf" 7 ["_law_hall", "_law_name_here", "_law_verses"] ( (xC K (b9 K) (fun n : Str => aE K n) (fun r : List (List Str) => aE K r) (fun z : P3 Str Int Int => aE K z) cv)) := fi (x := "_law_why_shelf") (qual := "_law_why_shelf") (st := eE) F_law_why_shelf g_law_why_shelf (ng F_law_why_shelf T D_Hall_shelve_x) fun _ _ _ _ _ _ us hl => match us, hl with | [_, _, _], _ => rfl
  exact CR F_law T D_law_numbers D_law_same D_law_book D_law_copy D_Hall___init__ D_Hall_shelve D_Hall_books D_Hall_deeds D_Hall_book D_law_book_told D_law_book_bad D_law_spoilt_book D_law_name D_law_why_shelf ym
end Kj
open PySem PySem.W PySem.Calls PyProof.Rows
theorem PySem.Challenge.cw_kimariji_k63_books_refused_at_a_hall_holds : PySem.Challenge.rw_kimariji_k63_books_refused_at_a_hall.Holds := by
  w_on; o_law
  refine HandSHeadRun.head_any (r := OpenLaw.row PySem.Challenge.rw_kimariji_k63_books_refused_at_a_hall) (q := view (OpenLaw.row PySem.Challenge.rw_kimariji_k63_books_refused_at_a_hall).prog [52]) (H := Kj.hk) (ob := Kj.ob) (M := 12000) (loose := Kj.loo) (d := HandSHeadRun.topDef (OpenLaw.row PySem.Challenge.rw_kimariji_k63_books_refused_at_a_hall).prog 52) (kwd := []) Kj.ob_eq
    (by kernel_rfl) (fun s => by kernel_rfl) Kj.run (by kernel_rfl) (by kernel_rfl) (by kernel_rfl) (by rfl) (by first | assumption | decide +kernel) (by decide +kernel) ⟨rfl, rfl, rfl, rfl, rfl, by decide +kernel⟩ ?hw ?hc
  case hw => w_witness2
  case hc =>
    refine L2.walk_ofE (l := PySem.Challenge.rw_kimariji_k63_books_refused_at_a_hall) (n := 63) (k := 11) (x := "_law_script") (CX := L2.CX0) rfl (by decide) (by kernel_rfl) ⟨rfl, by decide, by decide⟩ ?F (fun _ _ _ _ z => z)
    intro w mg fa h Y G hmg0
    obtain ⟨K, KX, c, cx⟩ := Y
    have hmg : mg ("law" : PySem.Str) = some (.ref fa) := by
      have e : (HandSHeadRun.topDef (OpenLaw.row PySem.Challenge.rw_kimariji_k63_books_refused_at_a_hall).prog 52).name = ("law" : PySem.Str) := by kernel_rfl
      rw [← e]
      exact hmg0
    obtain ⟨fd, hb, hF⟩ := Kj.facts (P := (PySem.Challenge.rw_kimariji_k63_books_refused_at_a_hall).prog) (w := w) KX G hmg c cx
    exact ⟨K, fd, Kj.spL K, KX, hb, fun H a ns hl _ hS => ⟨a, ns, rfl, hS, hl, fun _ => rfl⟩, hF⟩
